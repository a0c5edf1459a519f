"""ORDER of MIXED numbers."""

from towerwise.errors import BadWorth, NoOrder
from towerwise.kinds import FINITE
from towerwise.likeness import stand
from towerwise.mixed import need_number_of
from towerwise.paths import least_in
from towerwise.towers import plan_of


def order_of(tower, one, other):
    """Tell below, above or alike where one of two MIXED numbers is so to the other, else perhaps."""
    leads, above = plan_of(tower)
    need_number_of(tower, one)
    need_number_of(tower, other)
    return _order(tower[0], leads, above, one, other)


def _order(kinds, leads, above, one, other):
    """Tell the ORDER of two MIXED numbers; refuse with NoOrder and TooGreat alone."""
    return order_at(kinds, leads, above, least_in(above, above[one[0]] & above[other[0]]), one, other)


def order_at(kinds, leads, above, top, one, other):
    """Tell the ORDER of two MIXED numbers by the LEAST kind above both, None without one."""
    if top is None or kinds[top][0] in FINITE:
        raise NoOrder("there is no kind in which these two have an order")
    return stand(kinds, leads, above, top, one, other)


def in_order(tower, numbers):
    """List MIXED numbers anew, those below ahead of those above, alike ones as they stood."""
    leads, above = plan_of(tower)
    if not isinstance(numbers, list):
        raise BadWorth("only a list is put in order")
    for number in numbers:
        need_number_of(tower, number)
    ordered = list(numbers)
    for place, number in zip(_places_of(tower[0], leads, above, numbers), numbers):
        ordered[place] = number
    return ordered


def _places_of(kinds, leads, above, numbers):
    """List for each number how many of the others come ahead of it."""
    places = [0] * len(numbers)
    for first, one in enumerate(numbers):
        for second in range(first + 1, len(numbers)):
            word = _order(kinds, leads, above, one, numbers[second])
            if word == "perhaps":
                raise NoOrder("nobody can tell which of these two comes first")
            places[first if word == "above" else second] += 1
    return places
