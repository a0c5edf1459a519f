"""ORDER of MIXED numbers."""

from towerwise.errors import BadWorth, NoOrder
from towerwise.kinds import FINITE
from towerwise.likeness import meeting_of, stand
from towerwise.mixed import need_number_of
from towerwise.paths import reach_of
from towerwise.towers import need_tower


def order_of(tower, one, other):
    """Tell below, above or alike where one of two MIXED numbers is so to the other, else perhaps."""
    need_tower(tower)
    need_number_of(tower, one)
    need_number_of(tower, other)
    return _order(tower, reach_of(tower), one, other)


def _order(tower, above, one, other):
    """Tell the ORDER of two MIXED numbers; refuse with NoOrder and TooGreat alone."""
    top = meeting_of(above, one[0], other[0])
    if top is None or tower[0][top][0] in FINITE:
        raise NoOrder("there is no kind in which these two have an order")
    return stand(tower, above, top, one, other)


def in_order(tower, numbers):
    """List MIXED numbers anew, those below ahead of those above, alike ones as they stood."""
    need_tower(tower)
    if not isinstance(numbers, list):
        raise BadWorth("only a list is put in order")
    for number in numbers:
        need_number_of(tower, number)
    ordered = list(numbers)
    for place, number in zip(_places_of(tower, numbers), numbers):
        ordered[place] = number
    return ordered


def _places_of(tower, numbers):
    """List for each number how many of the others come ahead of it."""
    above = reach_of(tower)
    places = [0] * len(numbers)
    for first, one in enumerate(numbers):
        for second in range(first + 1, len(numbers)):
            word = _order(tower, above, one, numbers[second])
            if word == "perhaps":
                raise NoOrder("nobody can tell which of these two comes first")
            places[first if word == "above" else second] += 1
    return places
