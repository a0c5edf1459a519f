"""The worths of each kind, and the ORDER OF TRYING in which they stand."""

from math import gcd, isqrt

from towerwise.errors import BadNumber, BadWorth
from towerwise.fractions import NOUGHT, is_fraction, is_less, ten_to
from towerwise.kinds import FINITE, count_worths, need_kind
from towerwise.words import is_among, is_whole

MOST_POWER = 400
LAST_TRIED = 400


def is_worth(kind, thing):
    """Tell whether thing is a worth of a kind."""
    need_kind(kind)
    return has_worth(kind, thing)


def has_worth(kind, thing):
    """Tell whether thing is a worth of a kind that is known to be one."""
    if kind[0] in FINITE:
        return is_among(thing, 0, count_worths(kind) - 1)
    if kind[0] == "whole":
        return is_whole(thing)
    if kind[0] == "share":
        return is_fraction(thing)
    if not isinstance(thing, tuple) or len(thing) != 2:
        return False
    if kind[0] == "about":
        return _is_about(kind[1], thing[0], thing[1])
    if not is_fraction(thing[0]) or not is_fraction(thing[1]):
        return False
    return kind[0] == "root" or not is_less(thing[1], thing[0])


def _is_about(figures, front, power):
    """Tell whether front times ten to power is told as a worth of so many figures."""
    if not is_whole(front) or not is_whole(power):
        return False
    if front == 0:
        return power == 0
    most = ten_to(figures) - 1
    return front % 10 != 0 and is_among(front, -most, most) and is_among(power, -MOST_POWER, MOST_POWER)


def need_worth(kind, thing):
    """Refuse with BadWorth what is no worth of a kind."""
    need_kind(kind)
    need_among_worths(kind, thing)


def need_among_worths(kind, thing):
    """Refuse with BadWorth what is no worth of a kind that is known to be one."""
    if not has_worth(kind, thing):
        raise BadWorth("this is no worth of the kind")


def worth_at(kind, number):
    """Tell the worth of that number in the ORDER OF TRYING."""
    need_kind(kind)
    if not is_among(number, 0, _last_number(kind)):
        raise BadNumber("no worth has this number")
    if kind[0] == "whole":
        return (number + 1) // 2 if number % 2 == 1 else -(number // 2)
    if kind[0] == "root":
        return _root_at(number)
    if kind[0] in FINITE:
        return number
    return _first_worths(kind, number + 1)[number]


def _last_number(kind):
    """Tell the last number that a worth of the kind is asked for by."""
    if kind[0] in FINITE:
        return count_worths(kind) - 1
    return len(_sures()) - 1 if kind[0] == "sure" else LAST_TRIED


def _first_worths(kind, many):
    """List the first so many worths of a share, about or sure kind, or some more."""
    if kind[0] == "share":
        return _shares(many)
    return _abouts(kind[1], many) if kind[0] == "about" else _sures()


def _shares(many):
    """List the first so many shares, or some more."""
    found = [NOUGHT]
    both = 2
    while len(found) < many:
        for below in range(1, both):
            if gcd(both, below) == 1:
                found.extend([(both - below, below), (below - both, below)])
        both += 1
    return found


def _abouts(figures, many):
    """List the first so many numbers about so many figures, or some more."""
    found = [(0, 0)]
    both = 1
    while len(found) < many:
        for power in range(both):
            if _is_about(figures, both - power, power):
                found.extend(_with_signs(both - power, power))
        both += 1
    return found


def _with_signs(front, power):
    """List a number about some figures with all signs of both its parts."""
    ahead = [(front, power), (-front, power)]
    return ahead if power == 0 else ahead + [(front, -power), (-front, -power)]


def _sures():
    """List all sure bounds that have a number: those with whole ends from -2 to 2."""
    return [((low, 1), (low + wide, 1)) for wide in range(5) for low in range(-2, 3 - wide)]


def _root_at(number):
    """Tell the worth of a root of that number: before it stand all of lesser numbers, a square of them."""
    greater = isqrt(number)
    shares = _shares(greater + 1)
    behind = number - greater * greater
    if behind < greater:
        return (shares[behind], shares[greater])
    return (shares[greater], shares[behind - greater])


def place_of(kind, worth):
    """Tell the number of a worth in the ORDER OF TRYING."""
    need_worth(kind, worth)
    number = _number_of(kind, worth)
    if not is_among(number, 0, LAST_TRIED):
        raise BadNumber("this worth has no number up to 400")
    return number


def _number_of(kind, worth):
    """Tell the number of a worth; where it isn't among the listed ones one beyond them, or None."""
    if kind[0] == "whole":
        return 2 * worth - 1 if worth > 0 else -2 * worth
    if kind[0] in FINITE:
        return worth
    if kind[0] == "root":
        return _root_number(worth)
    return _found_at(_first_worths(kind, LAST_TRIED + 1), worth)


def _found_at(worths, worth):
    """Tell the number at which a worth stands in a list, None where it doesn't."""
    return worths.index(worth) if worth in worths else None


def _root_number(worth):
    """Tell the number of a worth of a root, None where one of its shares is beyond those listed."""
    shares = _shares(LAST_TRIED + 1)
    first = _found_at(shares, worth[0])
    second = _found_at(shares, worth[1])
    if first is None or second is None:
        return None
    return second * second + first if first < second else first * first + first + second
