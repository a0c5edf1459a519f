"""The kinds above others, the ways to them, and the LEAST of those in which something can be done."""

from towerwise.deeds import kind_has, need_deed
from towerwise.paths import first_between, is_above, least_among, numbers_above, reach_of, ways_between
from towerwise.towers import need_number, need_tower


def kinds_above(tower, number):
    """List, rising, the kind itself and all to which ways lead from it."""
    need_tower(tower)
    need_number(tower, number)
    return numbers_above(reach_of(tower), number, number)


def all_ways(tower, one, other):
    """List all ways from one kind to another, in order."""
    _need_numbers(tower, one, other)
    return ways_between(tower, one, other)


def first_way(tower, one, other):
    """Tell the FIRST way from one kind to another, None where there is none."""
    _need_numbers(tower, one, other)
    above = reach_of(tower)
    return first_between(tower, above, one, other) if is_above(above, one, other) else None


def candidates_of(tower, deed, one, other):
    """List, rising, the kinds above both that have the deed."""
    _need_deed_of(tower, deed, one, other)
    return having(tower, reach_of(tower), deed, one, other)


def least_kind(tower, deed, one, other):
    """Tell the LEAST of the kinds above both that have the deed."""
    _need_deed_of(tower, deed, one, other)
    return least_having(tower, reach_of(tower), deed, one, other)


def least_above(tower, one, other):
    """Tell the LEAST of all kinds above both."""
    _need_numbers(tower, one, other)
    above = reach_of(tower)
    return least_among(above, numbers_above(above, one, other))


def having(tower, above, deed, one, other):
    """List, rising, the CANDIDATES of a deed, all of it known to be good."""
    return [number for number in numbers_above(above, one, other) if kind_has(tower[0][number], deed)]


def least_having(tower, above, deed, one, other):
    """Tell the LEAST of the CANDIDATES; refuse with NoKind and TwoKinds alone."""
    return least_among(above, having(tower, above, deed, one, other))


def _need_numbers(tower, one, other):
    """Refuse what is no tower, then what are no numbers of its KINDS."""
    need_tower(tower)
    need_number(tower, one)
    need_number(tower, other)


def _need_deed_of(tower, deed, one, other):
    """Refuse what is no tower, what is no deed, then what are no numbers of the KINDS."""
    need_tower(tower)
    need_deed(deed)
    need_number(tower, one)
    need_number(tower, other)
