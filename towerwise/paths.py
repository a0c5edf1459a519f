"""Which kinds of a tower are above which, and the ways between them: of towers and numbers known to be good."""

from towerwise.errors import NoKind, TwoKinds


def reach_of(tower):
    """List for each kind those above it, all in one number whose bit J is 1 where kind J is above."""
    kinds, steps = tower
    above = [1 << number for number in range(len(kinds))]
    for one, other, _ in steps:
        above[one] |= 1 << other
    for middle in range(len(kinds)):
        for number in range(len(kinds)):
            if above[number] >> middle & 1:
                above[number] |= above[middle]
    return above


def is_above(above, one, other):
    """Tell whether, by what reach_of listed, other is above one."""
    return above[one] >> other & 1 == 1


def numbers_above(above, one, other):
    """List, rising, the kinds that are above both."""
    both = above[one] & above[other]
    return [number for number in range(len(above)) if both >> number & 1]


def leads_of(tower):
    """List for each kind, rising, those to which a step leads from it."""
    leads = [[] for _ in tower[0]]
    for one, other, _ in tower[1]:
        leads[one].append(other)
    return leads


def ways_between(tower, one, other):
    """List all ways from one to other, in order."""
    return _ways_on(leads_of(tower), reach_of(tower), one, other)


def _ways_on(leads, above, one, other):
    """List all ways from one to other: no tower has a ring, so this ends, and the first ways are found first."""
    if one == other:
        return [(other,)]
    return [(one,) + way for middle in leads[one] if is_above(above, middle, other)
            for way in _ways_on(leads, above, middle, other)]


def first_between(tower, above, one, other):
    """Tell the FIRST way from one to other, which is above it."""
    way = (one,)
    while way[-1] != other:
        way = way + (_first_lead(tower, above, way[-1], other),)
    return way


def _first_lead(tower, above, one, other):
    """Tell the least kind to which a step leads from one and beyond which other is."""
    for start, end, _ in tower[1]:
        if start == one and is_above(above, end, other):
            return end
    return None


def least_among(above, numbers):
    """Tell the LEAST of some kinds; refuse with NoKind where there are none, with TwoKinds where none is the LEAST."""
    if not numbers:
        raise NoKind("there is no kind for this")
    for number in numbers:
        if all([is_above(above, number, other) for other in numbers]):
            return number
    lowest = [number for number in numbers if not _is_led_to(above, numbers, number)]
    raise TwoKinds(lowest[0], lowest[1])


def _is_led_to(above, numbers, number):
    """Tell whether ways lead to a kind from another one of these."""
    return any([other != number and is_above(above, other, number) for other in numbers])
