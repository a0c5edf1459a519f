"""Rests by times: which have a back, and which come to nought with one another."""

from towerwise.errors import ByNought
from towerwise.kinds import many_worths, need_kind_of
from towerwise.words import is_among
from towerwise.worths import need_worth


def is_prime(number):
    """Tell whether number is a prime number below 100."""
    return is_among(number, 2, 99) and all(number % part != 0 for part in range(2, number))


def back_of(kind, worth):
    """Tell the one rest that, times worth, leaves 1."""
    need_kind_of(kind, ("rest",))
    need_worth(kind, worth)
    backs = _backs(many_worths(kind), worth)
    if not backs:
        raise ByNought("this rest has no back")
    return backs[0]


def _backs(many, worth):
    """List the rests that, times worth, leave 1: one at the most."""
    return [back for back in range(many) if worth * back % many == 1]


def units_of(kind):
    """Tell the rising tuple of the rests that have a back."""
    need_kind_of(kind, ("rest",))
    many = many_worths(kind)
    return tuple([worth for worth in range(many) if _backs(many, worth)])


def parted_noughts(kind):
    """List the rising pairs of rests, neither nought, whose product leaves nought."""
    need_kind_of(kind, ("rest",))
    many = many_worths(kind)
    return [(one, other) for one in range(1, many) for other in range(one, many) if one * other % many == 0]
