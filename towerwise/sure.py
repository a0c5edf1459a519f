"""Deeds and order of sure bounds: (LOW, HIGH), some number from LOW to HIGH."""

from math import isqrt

from towerwise.errors import BadNumber, BadWorth, ByNought
from towerwise.fractions import ends_of, fraction, fraction_deed, is_less, ten_to
from towerwise.kinds import need_kind_of
from towerwise.refusals import need_deed_of, need_small, need_worths_of
from towerwise.words import is_among
from towerwise.worths import need_worth


def sure_deed(kind, deed, one, other):
    """Tell the least bounds of all that comes of a number within one by a number within other."""
    need_deed_of(kind, ("sure",), deed, one, other)
    return sure_done(deed, one, other)


def sure_done(deed, one, other):
    """Tell the same of worths and one of the four deeds that are known to be good, whichever sure kind it is."""
    if deed == "over" and other[0][0] <= 0 <= other[1][0]:
        raise ByNought("the other may be nought")
    # A deed rises or falls in each of both numbers, so all of it lies between what the ends come to.
    told = ends_of([fraction_deed(deed, left, right) for left in one for right in other])
    need_small(told)
    return told


def sure_like(kind, one, other):
    """Tell yes or no where both are ALIKE or APART for sure, else perhaps."""
    need_worths_of(kind, ("sure",), one, other)
    if _is_below(one, other) or _is_below(other, one):
        return "no"
    return "yes" if _are_alike(one, other) else "perhaps"


def sure_order(kind, one, other):
    """Tell below, alike or above where one is so for sure, else perhaps."""
    need_worths_of(kind, ("sure",), one, other)
    if _is_below(one, other):
        return "below"
    if _is_below(other, one):
        return "above"
    return "alike" if _are_alike(one, other) else "perhaps"


def _is_below(one, other):
    """Tell whether all of one is less than all of other."""
    return is_less(one[1], other[0])


def _are_alike(one, other):
    """Tell whether both have one number alone, the same."""
    return one == other and one[0] == one[1]


def root_bounds(number, places):
    """Tell the bounds of the root of a whole number, by so many figures behind the point."""
    if not is_among(number, 2, 60) or not is_among(places, 0, 6):
        raise BadNumber("roots are of 2 to 60, to at most six places")
    step = ten_to(places)
    low = isqrt(number * step * step)
    return (fraction(low, step), fraction(low + 1, step))


def hull_of(kind, worths):
    """Tell the least bounds that hold all of a list or tuple of worths, one at least."""
    need_kind_of(kind, ("sure",))
    if not isinstance(worths, (list, tuple)) or len(worths) == 0:
        raise BadWorth("a hull is of one worth at least")
    for worth in worths:
        need_worth(kind, worth)
    return ends_of([end for worth in worths for end in worth])


def is_within(kind, one, other):
    """Tell whether all numbers of one are of other, too."""
    need_worths_of(kind, ("sure",), one, other)
    return not is_less(one[0], other[0]) and not is_less(other[1], one[1])
