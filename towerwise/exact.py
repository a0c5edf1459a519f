"""Deeds and order of whole numbers, of shares and of rests."""

from towerwise.backs import back_of, is_prime
from towerwise.errors import NoDeed
from towerwise.fractions import compared, fraction_deed
from towerwise.refusals import need_deed_of, need_small, need_worths_of


def exact_deed(kind, deed, one, other):
    """Tell the worth that comes of two whole numbers, shares or rests."""
    need_deed_of(kind, ("whole", "share", "rest"), deed, one, other)
    return exact_done(kind, deed, one, other)


def exact_done(kind, deed, one, other):
    """Tell the same of a kind, worths and one of the four deeds that are known to be good."""
    if deed == "over" and not _has_over(kind):
        raise NoDeed("this kind has no over")
    if kind[0] == "rest":
        return _rest_deed(kind, deed, one, other)
    told = fraction_deed(deed, _as_share(kind, one), _as_share(kind, other))
    need_small([told])
    return told[0] if kind[0] == "whole" else told


def _has_over(kind):
    """Tell whether one of these kinds has over."""
    return kind[0] == "share" or kind[0] == "rest" and is_prime(kind[1])


def _as_share(kind, worth):
    """Tell a whole number or a share as a share."""
    return (worth, 1) if kind[0] == "whole" else worth


def _rest_deed(kind, deed, one, other):
    """Tell the rest that comes."""
    if deed == "over":
        return one * back_of(kind, other) % kind[1]
    return fraction_deed(deed, (one, 1), (other, 1))[0] % kind[1]


def exact_order(kind, one, other):
    """Tell -1, 0 or 1 where one is less than other, the same, greater, of whole numbers or shares."""
    need_worths_of(kind, ("whole", "share"), one, other)
    return exact_compared(kind, one, other)


def exact_compared(kind, one, other):
    """Tell the same of a kind and worths that are known to be good."""
    return compared(_as_share(kind, one), _as_share(kind, other))
