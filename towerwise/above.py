"""The kinds above others, the ways to them, and the LEAST of those in which something can be done."""

from towerwise.deeds import kind_has, need_deed
from towerwise.paths import first_steps, least_among, numbers_in, way_along, ways_between
from towerwise.towers import need_number, plan_of


def kinds_above(tower, number):
    """List, rising, the kind itself and all to which ways lead from it."""
    above = plan_of(tower)[1]
    need_number(tower, number)
    return numbers_in(above, above[number])


def all_ways(tower, one, other):
    """List all ways from one kind to another, in order."""
    leads, above = _plan_with(tower, one, other)
    return ways_between(leads, above, one, other)


def first_way(tower, one, other):
    """Tell the FIRST way from one kind to another, None where there is none."""
    leads, above = _plan_with(tower, one, other)
    if not above[one] >> other & 1:
        return None
    return way_along(one, first_steps(leads, above, one, other))


def candidates_of(tower, deed, one, other):
    """List, rising, the kinds above both that have the deed."""
    above = _above_with(tower, deed, one, other)
    return numbers_in(above, having(tower[0], above, deed, one, other))


def least_kind(tower, deed, one, other):
    """Tell the LEAST of the kinds above both that have the deed."""
    above = _above_with(tower, deed, one, other)
    return least_having(tower[0], above, deed, one, other)


def least_above(tower, one, other):
    """Tell the LEAST of all kinds above both."""
    above = _plan_with(tower, one, other)[1]
    return least_among(above, above[one] & above[other])


def having(kinds, above, deed, one, other):
    """Tell, in bits, the CANDIDATES of a deed, all of it known to be good."""
    both = above[one] & above[other]
    for number, kind in enumerate(kinds):
        if both >> number & 1 and not kind_has(kind, deed):
            both -= 1 << number
    return both


def least_having(kinds, above, deed, one, other):
    """Tell the LEAST of the CANDIDATES; refuse with NoKind and TwoKinds alone."""
    return least_among(above, having(kinds, above, deed, one, other))


def _plan_with(tower, one, other):
    """Refuse what is no tower, then what are no numbers of its KINDS; tell the steps and what is above what."""
    plan = plan_of(tower)
    need_number(tower, one)
    need_number(tower, other)
    return plan


def _above_with(tower, deed, one, other):
    """Refuse what is no tower, what is no deed, then what are no numbers; tell what is above what."""
    above = plan_of(tower)[1]
    need_deed(deed)
    need_number(tower, one)
    need_number(tower, other)
    return above
