"""MIXED numbers: a number of KINDS and a worth of that kind; deeds of two, whatever their kinds are."""

from towerwise.above import least_having
from towerwise.deeds import done, need_deed
from towerwise.errors import BadWorth, ByNought, TooGreat
from towerwise.going import carried, lifted
from towerwise.paths import first_steps, way_along
from towerwise.towers import need_tower, plan_of
from towerwise.words import is_among
from towerwise.worths import has_worth


def is_mixed(tower, thing):
    """Tell whether thing is a MIXED number of a tower."""
    need_tower(tower)
    return is_number_of(tower, thing)


def need_mixed(tower, thing):
    """Refuse with BadWorth what is no MIXED number of a tower."""
    need_tower(tower)
    need_number_of(tower, thing)


def is_number_of(tower, thing):
    """Tell whether thing is a MIXED number of a tower that is known to be good."""
    if not isinstance(thing, tuple) or len(thing) != 2 or not is_among(thing[0], 0, len(tower[0]) - 1):
        return False
    return has_worth(tower[0][thing[0]], thing[1])


def need_number_of(tower, thing):
    """Refuse with BadWorth what is no MIXED number of a good tower."""
    if not is_number_of(tower, thing):
        raise BadWorth("this is no mixed number of the tower")


def mixed_deed(tower, deed, one, other):
    """Tell the MIXED number that comes of two."""
    leads, above = _plan_with(tower, deed, one, other)
    return deed_at(tower[0], leads, above, least_having(tower[0], above, deed, one[0], other[0]), deed, one, other)


def deed_at(kinds, leads, above, top, deed, one, other):
    """Tell the MIXED number that comes of two in a kind above both that has the deed."""
    left = first_come(kinds, leads, above, one, top)
    right = first_come(kinds, leads, above, other, top)
    return (top, done(kinds[top], deed, left, right))


def all_answers(tower, deed, one, other):
    """List (ANSWER, WAY, WAY) for all that comes of two MIXED numbers, by whatever ways they go up."""
    plan = _plan_with(tower, deed, one, other)
    kinds = tower[0]
    top = least_having(kinds, plan[1], deed, one[0], other[0])
    rights = _all_come(kinds, plan, other, top, {})
    found = {}
    for left, way in _all_come(kinds, plan, one, top, {}).items():
        for right, second in rights.items():
            found.setdefault(_answer(kinds[top], deed, left, right), (way, second))
    return [(answer, way, second) for answer, (way, second) in found.items()]


def first_come(kinds, leads, above, number, top):
    """Tell what a MIXED number comes to in a kind above its own by the FIRST way."""
    return carried(kinds, first_steps(leads, above, number[0], top), number[1])


def _all_come(kinds, plan, number, top, known):
    """Tell all that a MIXED number comes to in a kind, None for TOO GREAT, each with the first way to it, in order.

    What is known already of numbers on the way is not looked for again: many ways come together there.
    """
    if number not in known:
        known[number] = _come_on(kinds, plan, number, top, known)
    return known[number]


def _come_on(kinds, plan, number, top, known):
    """Tell the same by all that comes of the steps from the number's kind, in order."""
    kind, worth = number
    if kind == top:
        return {worth: (top,)}
    leads, above = plan
    found = {}
    for _, middle, how in leads[kind]:
        if above[middle] >> top & 1:
            stepped = _stepped(kinds[kind], kinds[middle], how, worth)
            if stepped is None:
                found.setdefault(None, (kind,) + way_along(middle, first_steps(leads, above, middle, top)))
            else:
                for come, way in _all_come(kinds, plan, (middle, stepped), top, known).items():
                    found.setdefault(come, (kind,) + way)
    return found


def _stepped(one, other, how, worth):
    """Tell what a worth becomes up a step, None for TOO GREAT."""
    try:
        return lifted(one, other, how, worth)
    except TooGreat:
        return None


def _answer(kind, deed, left, right):
    """Tell the ANSWER of a deed of two worths that came up, None for those that were TOO GREAT."""
    if left is None or right is None:
        return ("great",)
    try:
        return ("worth", done(kind, deed, left, right))
    except ByNought:
        return ("nought",)
    except TooGreat:
        return ("great",)


def _plan_with(tower, deed, one, other):
    """Refuse what is no tower, what is no deed, then what are no MIXED numbers; tell the plan of the tower."""
    plan = plan_of(tower)
    need_deed(deed)
    need_number_of(tower, one)
    need_number_of(tower, other)
    return plan
