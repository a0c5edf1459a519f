"""TOWERS: which things are one, and towers with a kind or a step more."""

from towerwise.errors import BadNumber, BadTower
from towerwise.kinds import FINITE, count_worths, is_kind, is_row, need_kind
from towerwise.paths import is_ringed, leads_of, all_above
from towerwise.words import is_among, is_whole

MOST_KINDS = 8
# The words of the kinds to which steps without a ROW lead from any kind of that word; rests go to some rests alone.
LEADS = {
    "whole": ("share", "root", "rest", "about", "sure"),
    "share": ("root", "about", "sure"),
    "root": ("sure",),
    "rest": (),
    "about": ("about", "sure"),
    "sure": ("sure",),
    "own": (),
}


def is_tower(thing):
    """Tell whether thing is a TOWER."""
    return _wrong_place(thing) is None


def need_tower(thing):
    """Refuse with BadTower what is no TOWER."""
    place = _wrong_place(thing)
    if place is not None:
        raise BadTower(place)


def plan_of(thing):
    """Refuse with BadTower what is no TOWER; tell for its KINDS the steps from each and, in bits, those above each."""
    place = _wrong_part(thing)
    if place is not None:
        raise BadTower(place)
    leads = leads_of(thing)
    above = all_above(leads)
    if is_ringed(above):
        raise BadTower((2,))
    return (leads, above)


def _wrong_place(thing):
    """Tell the place of the first thing by which this is no TOWER, None where it is one."""
    place = _wrong_part(thing)
    return (2,) if place is None and _has_ring(thing) else place


def _wrong_part(thing):
    """Tell the place of the first thing but a RING by which this is no TOWER, None without one."""
    if not _is_pair_of_tuples(thing) or not 1 <= len(thing[0]) <= MOST_KINDS:
        return ()
    kinds, steps = thing
    for place, kind in enumerate(kinds):
        if not is_kind(kind):
            return (0, _first_twice(kinds[:place]) or place)
    if len(set(kinds)) < len(kinds):
        return (0, _first_twice(kinds))
    place = _wrong_step(kinds, steps)
    return None if place is None else (1, place)


def _first_twice(kinds):
    """Tell the place of the first of some kinds that stands ahead already, None without one."""
    for place, kind in enumerate(kinds):
        if kind in kinds[:place]:
            return place
    return None


def _is_pair_of_tuples(thing):
    """Tell whether thing is a tuple of two tuples."""
    return isinstance(thing, tuple) and len(thing) == 2 and isinstance(thing[0], tuple) and isinstance(thing[1], tuple)


def _wrong_step(kinds, steps):
    """Tell the place of the first of STEPS that can't stand there, None where all can."""
    many, words = len(kinds), [kind[0] for kind in kinds]
    start, last, ends = -1, -1, ()
    for place, step in enumerate(steps):
        if not isinstance(step, tuple) or len(step) != 3:
            return place
        one, other, how = step
        if (type(one) is not int or type(other) is not int) and not _are_whole(one, other):
            return place
        if one != start or one < 0:
            if one < start or one < 0 or one >= many:
                return place
            start, last, ends = one, -1, LEADS[words[one]]
        # As long as steps lead from one kind, those to which they lead rise.
        if other <= last or other >= many or other == one:
            return place
        last = other
        if (how is not None or words[other] not in ends) and not _is_how(kinds[one], kinds[other], how):
            return place
    return None


def can_stand(kinds, step):
    """Tell whether a thing is a step between two of these kinds, wherever it stands."""
    return _wrong_step(kinds, (step,)) is None


def _are_whole(one, other):
    """Tell whether both are whole numbers."""
    return is_whole(one) and is_whole(other)


def _is_led_by_numbers(step):
    """Tell whether a thing is a tuple of three, two whole numbers first."""
    return isinstance(step, tuple) and len(step) == 3 and _are_whole(step[0], step[1])


def _is_how(one, other, how):
    """Tell whether a step leads from one kind to another by this, where steps don't lead so from all of its word."""
    if other[0] == "own":
        return one[0] in FINITE and is_row(how, count_worths(one), count_worths(other))
    return how is None and one[0] == "rest" and other[0] == "rest" and one[1] % other[1] == 0


def _has_ring(tower):
    """Tell whether steps lead from some kind back to it."""
    kinds, steps = tower
    for one, other, _ in steps:
        # No steps come back to a word that was left, and each RING has a step to a lesser number: so without such a
        # step within one word there is none.
        if one > other and kinds[one][0] == kinds[other][0]:
            return is_ringed(all_above(leads_of(tower)))
    return False


def need_number(tower, thing):
    """Refuse with BadNumber what is no number of the KINDS of a good tower."""
    if not is_among(thing, 0, len(tower[0]) - 1):
        raise BadNumber("the tower has no kind of this number")


def steps_from(tower, number):
    """List, rising, the kinds to which a step leads from one."""
    need_tower(tower)
    need_number(tower, number)
    return [other for one, other, _ in tower[1] if one == number]


def with_kind(tower, kind):
    """Tell the tower with a kind more, at the end."""
    need_tower(tower)
    need_kind(kind)
    kinds, steps = tower
    if kind in kinds or len(kinds) == MOST_KINDS:
        raise BadTower((0, len(kinds)))
    return (kinds + (kind,), steps)


def with_step(tower, step):
    """Tell the tower with a step more, where it stands by its two numbers."""
    need_tower(tower)
    kinds, steps = tower
    if not _is_led_by_numbers(step):
        raise BadTower((1, len(steps)))
    place = len([told for told in steps if told[:2] < step[:2]])
    if not can_stand(kinds, step) or step[:2] in [told[:2] for told in steps]:
        raise BadTower((1, place))
    grown = (kinds, steps[:place] + (step,) + steps[place:])
    if _has_ring(grown):
        raise BadTower((2,))
    return grown
