"""LIKENESS of MIXED numbers, and how two stand to each other in the LEAST kind above both."""

from towerwise.cards import way_card
from towerwise.errors import BadWay, NoKind, TwoKinds
from towerwise.exact import exact_order
from towerwise.figures import number_told, rounded_through
from towerwise.fractions import is_less
from towerwise.going import carried, need_way
from towerwise.kinds import FINITE
from towerwise.mixed import need_number_of
from towerwise.paths import first_between, least_among, numbers_above, reach_of
from towerwise.roots import root_order
from towerwise.towers import need_tower
from towerwise.worths import need_among_worths

BOUNDED = ("about", "sure")
# What LIKENESS is by how two numbers stand.
WORDS = {"below": "no", "above": "no", "apart": "no", "alike": "yes", "perhaps": "perhaps"}


def keeps_worths(tower, way):
    """Tell whether a WAY KEEPS."""
    need_tower(tower)
    need_way(tower, way)
    return keeps(tower[0][way[0]], way_card(tower, way))


def keeps(kind, card):
    """Tell whether ways from a kind that have this CARD keep unlike worths apart."""
    word, row = card
    if word == "row":
        return len(set(row)) == len(row)
    if word == "figures":
        return row == () or kind == ("about", row[0]) and len(row) == 1
    return word == "places"


def bounds_at(tower, way, worth):
    """Tell the BOUNDS of what a worth comes to by a WAY to an about or sure kind."""
    need_tower(tower)
    need_way(tower, way)
    last = tower[0][way[-1]]
    if last[0] not in BOUNDED:
        raise BadWay("only worths of about and sure kinds have bounds")
    need_among_worths(tower[0][way[0]], worth)
    return _bounds_of(last, carried(tower, way, worth))


def likeness_of(tower, one, other):
    """Tell yes or no where two MIXED numbers are the same, or APART, else perhaps."""
    need_tower(tower)
    need_number_of(tower, one)
    need_number_of(tower, other)
    above = reach_of(tower)
    top = meeting_of(above, one[0], other[0])
    return "perhaps" if top is None else WORDS[stand(tower, above, top, one, other)]


def meeting_of(above, one, other):
    """Tell the LEAST kind above both, None without one."""
    try:
        return least_among(above, numbers_above(above, one, other))
    except (NoKind, TwoKinds):
        return None


def stand(tower, above, top, one, other):
    """Tell how the one of two MIXED numbers stands to the other in a kind: below, above, apart, alike or perhaps.

    Apart are unlike worths of kinds that have no order.
    """
    kinds = tower[0]
    ways = [first_between(tower, above, number[0], top) for number in (one, other)]
    left, right = carried(tower, ways[0], one[1]), carried(tower, ways[1], other[1])
    cards = [way_card(tower, way) for way in ways]
    keeping = [keeps(kinds[one[0]], cards[0]), keeps(kinds[other[0]], cards[1])]
    if kinds[top][0] in BOUNDED:
        return _bounded_stand(_bounds_of(kinds[top], left), _bounds_of(kinds[top], right), cards, keeping)
    word = _plain_stand(kinds[top], left, right)
    return word if word != "alike" or all(keeping) else "perhaps"


def _plain_stand(kind, left, right):
    """Tell how two worths stand in a kind whose worths are told exactly."""
    if left == right:
        return "alike"
    if kind[0] in FINITE:
        return "apart"
    order = root_order(kind, left, right) if kind[0] == "root" else exact_order(kind, left, right)
    return "below" if order < 0 else "above"


def _bounds_of(kind, worth):
    """Tell (LOW, HIGH) of a worth of an about or sure kind."""
    if kind[0] == "sure":
        return worth
    number = number_told(worth)
    return (number, number)


def _bounded_stand(left, right, cards, keeping):
    """Tell how two bounds stand that came up ways of these CARDS."""
    # Bounds alike with both ends alike are one number, that of the worths on both sides.
    alike = "alike" if all(keeping) and left == right and left[0] == left[1] else "perhaps"
    if cards[0] != cards[1] and not all(keeping):
        if keeping[0]:
            left = _rounded_bounds(cards[1], left)
        elif keeping[1]:
            right = _rounded_bounds(cards[0], right)
        else:
            return "perhaps"
    if is_less(left[1], right[0]):
        return "below"
    return "above" if is_less(right[1], left[0]) else alike


def _rounded_bounds(card, bounds):
    """Tell bounds with each end ROUNDED by all figures of a CARD."""
    return (rounded_through(card[1], bounds[0]), rounded_through(card[1], bounds[1]))
