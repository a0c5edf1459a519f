"""The worths of each kind, and the ORDER OF TRYING in which they stand."""

from math import gcd, isqrt

from towerwise.errors import BadNumber, BadWorth
from towerwise.fractions import is_fraction, is_less
from towerwise.kinds import FINITE, count_worths, need_kind
from towerwise.words import is_among, is_whole

MOST_POWER = 400
LAST_TRIED = 400
# The greatest front of a number about so many figures.
MOST_FRONT = (0, 9, 99, 999)
# How many shares stand ahead of those whose above and below are so many together, as far as numbers are asked for;
# likewise, by front and power together, how many numbers about one figure, and about more. Nobody needs to count them
# with each question then.
SHARES_AHEAD = (0, 0, 1, 3, 7, 11, 19, 23, 35, 43, 55, 63, 83, 91, 115, 127, 143, 159, 191, 203, 239, 255, 279, 299,
                343, 359, 399)
ONE_FIGURE_AHEAD = (0, 1, 3, 9, 19, 33, 51, 73, 99, 129, 163, 199, 235, 271, 307, 343, 379)
FIGURES_AHEAD = (0, 1, 3, 9, 19, 33, 51, 73, 99, 129, 163, 199, 237, 279, 325, 375)
# The shares of which worths of a root are made, as far as those are asked for: with so many there are 441 of them.
ROOT_SHARES = ((0, 1), (1, 1), (-1, 1), (2, 1), (-2, 1), (1, 2), (-1, 2), (3, 1), (-3, 1), (1, 3), (-1, 3), (4, 1),
               (-4, 1), (3, 2), (-3, 2), (2, 3), (-2, 3), (1, 4), (-1, 4), (5, 1), (-5, 1))
# All sure bounds that have a number: those with whole ends from -2 to 2.
SURES = (((-2, 1), (-2, 1)), ((-1, 1), (-1, 1)), ((0, 1), (0, 1)), ((1, 1), (1, 1)), ((2, 1), (2, 1)),
         ((-2, 1), (-1, 1)), ((-1, 1), (0, 1)), ((0, 1), (1, 1)), ((1, 1), (2, 1)), ((-2, 1), (0, 1)),
         ((-1, 1), (1, 1)), ((0, 1), (2, 1)), ((-2, 1), (1, 1)), ((-1, 1), (2, 1)), ((-2, 1), (2, 1)))


def is_worth(kind, thing):
    """Tell whether thing is a worth of a kind."""
    need_kind(kind)
    return has_worth(kind, thing)


def has_worth(kind, thing):
    """Tell whether thing is a worth of a kind that is known to be one."""
    if kind[0] in FINITE:
        return is_among(thing, 0, count_worths(kind) - 1)
    if kind[0] == "whole":
        return is_whole(thing)
    if kind[0] == "share":
        return is_fraction(thing)
    if not isinstance(thing, tuple) or len(thing) != 2:
        return False
    if kind[0] == "about":
        return _is_about(kind[1], thing[0], thing[1])
    if not is_fraction(thing[0]) or not is_fraction(thing[1]):
        return False
    return kind[0] == "root" or not is_less(thing[1], thing[0])


def _is_about(figures, front, power):
    """Tell whether front times ten to power is told as a worth of so many figures."""
    if not is_whole(front) or not is_whole(power):
        return False
    if front == 0:
        return power == 0
    return front % 10 != 0 and abs(front) <= MOST_FRONT[figures] and abs(power) <= MOST_POWER


def need_worth(kind, thing):
    """Refuse with BadWorth what is no worth of a kind."""
    need_kind(kind)
    need_among_worths(kind, thing)


def need_among_worths(kind, thing):
    """Refuse with BadWorth what is no worth of a kind that is known to be one."""
    if not has_worth(kind, thing):
        raise BadWorth("this is no worth of the kind")


def worth_at(kind, number):
    """Tell the worth of that number in the ORDER OF TRYING."""
    need_kind(kind)
    if not is_among(number, 0, _last_number(kind)):
        raise BadNumber("no worth has this number")
    if kind[0] == "whole":
        return (number + 1) // 2 if number % 2 == 1 else -(number // 2)
    if kind[0] == "share":
        return _share_at(number)
    if kind[0] == "root":
        return _root_at(number)
    if kind[0] == "about":
        return _about_at(kind[1], number)
    return SURES[number] if kind[0] == "sure" else number


def _last_number(kind):
    """Tell the last number that a worth of the kind is asked for by."""
    if kind[0] in FINITE:
        return count_worths(kind) - 1
    return len(SURES) - 1 if kind[0] == "sure" else LAST_TRIED


def _both_at(ahead, number):
    """Tell of how many together a worth of that number is told, by how many stand ahead of those of so many."""
    both = len(ahead) - 1
    while ahead[both] > number:
        both -= 1
    return both


def _share_at(number):
    """Tell the share of that number."""
    both = _both_at(SHARES_AHEAD, number)
    behind = number - SHARES_AHEAD[both]
    # Each below stands there for two shares, one above nought and one below it.
    below = _belows(both, both + 1)[behind // 2]
    return (both - below if behind % 2 == 0 else below - both, below)


def _belows(both, end):
    """List the numbers ahead of end that are below in shares whose above and below are so many together."""
    return [below for below in range(1, end) if gcd(both, below) == 1]


def _root_at(number):
    """Tell the worth of a root of that number: before it stand all of lesser numbers, a square of them."""
    greater = isqrt(number)
    behind = number - greater * greater
    if behind < greater:
        return (ROOT_SHARES[behind], ROOT_SHARES[greater])
    return (ROOT_SHARES[greater], ROOT_SHARES[behind - greater])


def _about_at(figures, number):
    """Tell the number about so many figures of that number."""
    ahead = _abouts_ahead(figures)
    both = _both_at(ahead, number)
    behind = number - ahead[both]
    power = 0
    while behind >= _many_with(figures, both - power, power):
        behind -= _many_with(figures, both - power, power)
        power += 1
    front = both - power
    return (front if behind % 2 == 0 else -front, power if behind < 2 else -power)


def _abouts_ahead(figures):
    """Tell how many numbers about so many figures stand ahead of those of so many together."""
    return ONE_FIGURE_AHEAD if figures == 1 else FIGURES_AHEAD


def _many_with(figures, front, power):
    """Tell how many worths have a front and a power, with either sign of each."""
    if front > MOST_FRONT[figures] or front % 10 == 0:
        return 1 if front == 0 else 0
    return 2 if power == 0 else 4


def place_of(kind, worth):
    """Tell the number of a worth in the ORDER OF TRYING."""
    need_worth(kind, worth)
    number = _number_of(kind, worth)
    if not is_among(number, 0, LAST_TRIED):
        raise BadNumber("this worth has no number up to 400")
    return number


def _number_of(kind, worth):
    """Tell the number of a worth; of one beyond the last one asked for a greater number, or None."""
    if kind[0] == "whole":
        return 2 * worth - 1 if worth > 0 else -2 * worth
    if kind[0] == "share":
        return _share_number(worth)
    if kind[0] == "root":
        return _root_number(worth)
    if kind[0] == "about":
        return _about_number(kind[1], worth)
    if kind[0] == "sure":
        return SURES.index(worth) if worth in SURES else None
    return worth


def _share_number(share):
    """Tell the number of a share, None of one far beyond the last one asked for."""
    above, below = share
    both = abs(above) + below
    if both >= len(SHARES_AHEAD):
        return None
    return SHARES_AHEAD[both] + 2 * len(_belows(both, below)) + (1 if above < 0 else 0)


def _root_number(worth):
    """Tell the number of a worth of a root, None where one of its shares is far beyond the last one asked for."""
    first, second = _share_number(worth[0]), _share_number(worth[1])
    if first is None or second is None:
        return None
    return second * second + first if first < second else first * first + first + second


def _about_number(figures, worth):
    """Tell the number of one about so many figures, None of one far beyond the last one asked for."""
    ahead = _abouts_ahead(figures)
    power = abs(worth[1])
    both = abs(worth[0]) + power
    if both >= len(ahead):
        return None
    lesser = sum([_many_with(figures, both - less, less) for less in range(power)])
    return ahead[both] + lesser + (2 if worth[1] < 0 else 0) + (1 if worth[0] < 0 else 0)
