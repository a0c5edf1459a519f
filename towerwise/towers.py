"""TOWERS: which things are one, and towers with a kind or a step more."""

from towerwise.errors import BadNumber, BadTower
from towerwise.kinds import FINITE, count_worths, is_kind, is_row, need_kind
from towerwise.paths import is_above, reach_of
from towerwise.words import is_among, is_whole

MOST_KINDS = 8
# The words of the kinds to which steps without a ROW lead from a kind of that word.
LEADS = {
    "whole": ("share", "root", "rest", "about", "sure"),
    "share": ("root", "about", "sure"),
    "root": ("sure",),
    "rest": ("rest",),
    "about": ("about", "sure"),
    "sure": ("sure",),
    "own": (),
}


def is_tower(thing):
    """Tell whether thing is a TOWER."""
    return _wrong_place(thing) is None


def need_tower(thing):
    """Refuse with BadTower what is no TOWER."""
    place = _wrong_place(thing)
    if place is not None:
        raise BadTower(place)


def _wrong_place(thing):
    """Tell the place of the first thing by which this is no TOWER, None where it is one."""
    if not _is_pair_of_tuples(thing) or not 1 <= len(thing[0]) <= MOST_KINDS:
        return ()
    kinds, steps = thing
    for place, kind in enumerate(kinds):
        if not is_kind(kind) or kind in kinds[:place]:
            return (0, place)
    ahead = (-1, -1)
    for place, step in enumerate(steps):
        if not _can_stand(kinds, step) or step[:2] <= ahead:
            return (1, place)
        ahead = step[:2]
    return (2,) if _has_ring(thing) else None


def _is_pair_of_tuples(thing):
    """Tell whether thing is a tuple of two tuples."""
    return isinstance(thing, tuple) and len(thing) == 2 and isinstance(thing[0], tuple) and isinstance(thing[1], tuple)


def _can_stand(kinds, step):
    """Tell whether a thing is a step between two of these kinds, wherever it stands."""
    if not _is_led_by_numbers(step):
        return False
    one, other, how = step
    if one == other or not 0 <= one < len(kinds) or not 0 <= other < len(kinds):
        return False
    return _is_how(kinds[one], kinds[other], how)


def _is_led_by_numbers(step):
    """Tell whether a thing is a tuple of three, two whole numbers first."""
    return isinstance(step, tuple) and len(step) == 3 and is_whole(step[0]) and is_whole(step[1])


def _is_how(one, other, how):
    """Tell whether a step leads from one kind to another by this."""
    if other[0] == "own":
        return one[0] in FINITE and is_row(how, count_worths(one), count_worths(other))
    if how is not None or other[0] not in LEADS[one[0]]:
        return False
    return one[0] != "rest" or one[1] % other[1] == 0


def _has_ring(tower):
    """Tell whether steps lead from some kind back to it."""
    # Steps that all lead to greater numbers make no ring.
    if all([one < other for one, other, _ in tower[1]]):
        return False
    above = reach_of(tower)
    return any([is_above(above, other, one) for one, other, _ in tower[1]])


def need_number(tower, thing):
    """Refuse with BadNumber what is no number of the KINDS of a good tower."""
    if not is_among(thing, 0, len(tower[0]) - 1):
        raise BadNumber("the tower has no kind of this number")


def steps_from(tower, number):
    """List, rising, the kinds to which a step leads from one."""
    need_tower(tower)
    need_number(tower, number)
    return [other for one, other, _ in tower[1] if one == number]


def with_kind(tower, kind):
    """Tell the tower with a kind more, at the end."""
    need_tower(tower)
    need_kind(kind)
    kinds, steps = tower
    if kind in kinds or len(kinds) == MOST_KINDS:
        raise BadTower((0, len(kinds)))
    return (kinds + (kind,), steps)


def with_step(tower, step):
    """Tell the tower with a step more, where it stands by its two numbers."""
    need_tower(tower)
    kinds, steps = tower
    if not _is_led_by_numbers(step):
        raise BadTower((1, len(steps)))
    place = len([told for told in steps if told[:2] < step[:2]])
    if not _can_stand(kinds, step) or step[:2] in [told[:2] for told in steps]:
        raise BadTower((1, place))
    grown = (kinds, steps[:place] + (step,) + steps[place:])
    if _has_ring(grown):
        raise BadTower((2,))
    return grown
