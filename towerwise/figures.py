"""Numbers ROUNDED to so many figures, as worths of the kinds about so many."""

from towerwise.errors import BadNumber, BadWorth, TooGreat
from towerwise.fractions import fraction, is_fraction, ten_to
from towerwise.words import is_among
from towerwise.worths import MOST_POWER, need_worth

MOST_FIGURES = 3


def rounded(figures, number):
    """Tell the worth about so many figures that is nearest to a FRACTION."""
    _need_rounding(figures, number)
    if number[0] == 0:
        return (0, 0)
    power = _power_of(figures, number)
    front, left, below = _cut(number, power)
    # Of two as near the one farther from nought counts, whichever the sign: it is left out till the end.
    if 2 * left >= below:
        front += 1
    while front % 10 == 0:
        front //= 10
        power += 1
    if abs(power) > MOST_POWER:
        raise TooGreat("rounded the number is beyond all powers of ten")
    return (front if number[0] > 0 else -front, power)


def is_tie(figures, number):
    """Tell whether two worths about so many figures are as near to a FRACTION."""
    # What rounded refuses is refused here, too.
    if rounded(figures, number) == (0, 0):
        return False
    left, below = _cut(number, _power_of(figures, number))[1:]
    return 2 * left == below


def value_of(worth):
    """Tell the FRACTION of a worth about at most three figures."""
    need_worth(("about", MOST_FIGURES), worth)
    front, power = worth
    return fraction(front * ten_to(max(0, power)), ten_to(max(0, -power)))


def rounded_through(row, number):
    """Tell the FRACTION that is left of one ROUNDED to each count of figures in a row, one behind the other."""
    for figures in row:
        number = value_of(rounded(figures, number))
    return number


def _need_rounding(figures, number):
    """Refuse what is no count of figures, then what is no FRACTION."""
    if not is_among(figures, 1, MOST_FIGURES):
        raise BadNumber("figures are from one to three")
    if not is_fraction(number):
        raise BadWorth("only a fraction is rounded")


def _power_of(figures, number):
    """Tell the power of ten over which a FRACTION but nought has just so many figures ahead of the point."""
    # A bit is about three tenths of a figure: the guess saves steps, the loops make it right.
    power = (abs(number[0]).bit_length() - number[1].bit_length()) * 3 // 10 - figures
    while _cut(number, power)[0] >= ten_to(figures):
        power += 1
    while _cut(number, power)[0] < ten_to(figures - 1):
        power -= 1
    return power


def _cut(number, power):
    """Tell (FRONT, LEFT, BELOW): a FRACTION without its sign over ten to power is FRONT and LEFT / BELOW."""
    above = abs(number[0]) * ten_to(max(0, -power))
    below = number[1] * ten_to(max(0, power))
    return (above // below, above % below, below)
