"""Numbers ROUNDED to so many figures, as worths of the kinds about so many."""

from towerwise.errors import BadNumber, BadWorth, TooGreat
from towerwise.fractions import fraction, is_fraction, ten_to
from towerwise.words import is_among
from towerwise.worths import MOST_FRONT, MOST_POWER, need_among_worths

MOST_FIGURES = 3


def rounded(figures, number):
    """Tell the worth about so many figures that is nearest to a FRACTION."""
    _need_rounding(figures, number)
    return nearest(figures, number)


def nearest(figures, number):
    """Tell the same of a count of figures and a FRACTION that are known to be good."""
    if number[0] == 0:
        return (0, 0)
    power, front, left, below = _cut(figures, number)
    # Of two as near the one farther from nought counts, whichever the sign: it is left out till the end.
    front, power = _told(front + 1 if 2 * left >= below else front, power)
    return (front if number[0] > 0 else -front, power)


def is_tie(figures, number):
    """Tell whether two worths about so many figures are as near to a FRACTION."""
    # What rounded refuses is refused here, too.
    _need_rounding(figures, number)
    if nearest(figures, number) == (0, 0):
        return False
    left, below = _cut(figures, number)[2:]
    return 2 * left == below


def value_of(worth):
    """Tell the FRACTION of a worth about at most three figures."""
    need_among_worths(("about", MOST_FIGURES), worth)
    return number_told(worth)


def number_told(worth):
    """Tell the same of a worth that is known to be one."""
    front, power = worth
    if power >= 0:
        return (front * ten_to(power), 1)
    return fraction(front, ten_to(-power))


def rounded_through(row, number):
    """Tell the FRACTION that is left of one ROUNDED to each count of figures in a row, one behind the other."""
    for figures in row:
        number = number_told(nearest(figures, number))
    return number


def _need_rounding(figures, number):
    """Refuse what is no count of figures, then what is no FRACTION."""
    if not is_among(figures, 1, MOST_FIGURES):
        raise BadNumber("figures are from one to three")
    if not is_fraction(number):
        raise BadWorth("only a fraction is rounded")


def _cut(figures, number):
    """Tell (POWER, FRONT, LEFT, BELOW) of a FRACTION but nought, FRONT of just so many figures.

    Without its sign the number is ten to POWER times FRONT and LEFT / BELOW.
    """
    above, below = abs(number[0]), number[1]
    # A bit is 0.30103 of a figure, and this is a little less: so there is no figure too few, and one too many at most.
    power = ((above.bit_length() - below.bit_length() - 1) * 30103 - 100) // 100000 + 1 - figures
    if power > 0:
        below = below * ten_to(power)
    else:
        above = above * ten_to(-power)
    front, left = divmod(above, below)
    if front <= MOST_FRONT[figures]:
        return (power, front, left, below)
    return (power + 1, front // 10, front % 10 * below + left, 10 * below)


def _told(front, power):
    """Tell (FRONT, POWER) with no 0 at the end of the front; refuse with TooGreat."""
    while front % 10 == 0:
        front //= 10
        power += 1
    if abs(power) > MOST_POWER:
        raise TooGreat("rounded the number is beyond all powers of ten")
    return (front, power)
