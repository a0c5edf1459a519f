"""LIKENESS of MIXED numbers, and how two stand to each other in the LEAST kind above both."""

from towerwise.cards import card_along
from towerwise.errors import BadWay
from towerwise.exact import exact_compared
from towerwise.figures import MOST_FIGURES, number_told, rounded_through
from towerwise.fractions import is_less
from towerwise.going import carried, need_way
from towerwise.kinds import FINITE
from towerwise.mixed import need_number_of
from towerwise.paths import first_steps, least_in
from towerwise.roots import root_compared
from towerwise.towers import need_tower, plan_of
from towerwise.worths import need_among_worths

BOUNDED = ("about", "sure")
# What LIKENESS is by how two numbers stand.
WORDS = {"below": "no", "above": "no", "apart": "no", "alike": "yes", "perhaps": "perhaps"}


def keeps_worths(tower, way):
    """Tell whether a WAY KEEPS."""
    need_tower(tower)
    steps = need_way(tower, way)
    return does_keep(tower[0], way[0], steps)


def does_keep(kinds, number, steps):
    """Tell whether the way from a kind along steps KEEPS, by its kinds as far as they tell it: cards take longer."""
    first = kinds[number]
    if not steps or first[0] == "root":
        return True
    if first[0] in FINITE:
        row = card_along(kinds, number, steps)[1]
        return len(set(row)) == len(row)
    # Numbers kept to so many figures as they have already stay as they are, and whole ones go round in finite kinds.
    figures = first[1] if first[0] == "about" else MOST_FIGURES + 1
    for _, other, _ in steps:
        if kinds[other][0] in FINITE or kinds[other][0] == "about" and kinds[other][1] < figures:
            return False
    return True


def bounds_at(tower, way, worth):
    """Tell the BOUNDS of what a worth comes to by a WAY to an about or sure kind."""
    need_tower(tower)
    steps = need_way(tower, way)
    kinds = tower[0]
    if kinds[way[-1]][0] not in BOUNDED:
        raise BadWay("only worths of about and sure kinds have bounds")
    need_among_worths(kinds[way[0]], worth)
    return _bounds_of(kinds[way[-1]], carried(kinds, steps, worth))


def likeness_of(tower, one, other):
    """Tell yes or no where two MIXED numbers are the same, or APART, else perhaps."""
    leads, above = plan_of(tower)
    need_number_of(tower, one)
    need_number_of(tower, other)
    top = least_in(above, above[one[0]] & above[other[0]])
    return likeness_at(tower[0], leads, above, top, one, other)


def likeness_at(kinds, leads, above, top, one, other):
    """Tell the LIKENESS of two MIXED numbers by the LEAST kind above both, None without one."""
    return "perhaps" if top is None else WORDS[stand(kinds, leads, above, top, one, other)]


def stand(kinds, leads, above, top, one, other):
    """Tell how the one of two MIXED numbers stands to the other in a kind: below, above, apart, alike or perhaps.

    Apart are unlike worths of kinds that have no order.
    """
    ahead, behind = first_steps(leads, above, one[0], top), first_steps(leads, above, other[0], top)
    left, right = carried(kinds, ahead, one[1]), carried(kinds, behind, other[1])
    if kinds[top][0] not in BOUNDED:
        word = _plain_stand(kinds[top], left, right)
        # Only of worths alike it counts whether the ways keep.
        if word != "alike" or does_keep(kinds, one[0], ahead) and does_keep(kinds, other[0], behind):
            return word
        return "perhaps"
    cards = [card_along(kinds, one[0], ahead), card_along(kinds, other[0], behind)]
    keeping = [does_keep(kinds, one[0], ahead), does_keep(kinds, other[0], behind)]
    return _bounded_stand(_bounds_of(kinds[top], left), _bounds_of(kinds[top], right), cards, keeping)


def _plain_stand(kind, left, right):
    """Tell how two worths stand in a kind whose worths are told exactly."""
    if left == right:
        return "alike"
    if kind[0] in FINITE:
        return "apart"
    order = root_compared(kind, left, right) if kind[0] == "root" else exact_compared(kind, left, right)
    return "below" if order < 0 else "above"


def _bounds_of(kind, worth):
    """Tell (LOW, HIGH) of a worth of an about or sure kind."""
    if kind[0] == "sure":
        return worth
    number = number_told(worth)
    return (number, number)


def _bounded_stand(left, right, cards, keeping):
    """Tell how two bounds stand that came up ways of these CARDS."""
    # Bounds alike with both ends alike are one number, that of the worths on both sides.
    alike = "alike" if all(keeping) and left == right and left[0] == left[1] else "perhaps"
    if cards[0] != cards[1] and not all(keeping):
        if keeping[0]:
            left = _rounded_bounds(cards[1], left)
        elif keeping[1]:
            right = _rounded_bounds(cards[0], right)
        else:
            return "perhaps"
    if is_less(left[1], right[0]):
        return "below"
    return "above" if is_less(right[1], left[0]) else alike


def _rounded_bounds(card, bounds):
    """Tell bounds with each end ROUNDED by all figures of a CARD."""
    return (rounded_through(card[1], bounds[0]), rounded_through(card[1], bounds[1]))
