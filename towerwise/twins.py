"""Going back by ways that keep, and TWINS: the same number in other kinds."""

from towerwise.cards import way_card
from towerwise.errors import BadWay, TooGreat
from towerwise.figures import nearest, number_told
from towerwise.fractions import NOUGHT
from towerwise.going import carried, need_way
from towerwise.kinds import FINITE
from towerwise.likeness import keeps, meeting_of
from towerwise.mixed import need_number_of
from towerwise.paths import first_between, is_above, reach_of
from towerwise.towers import need_tower
from towerwise.worths import need_among_worths


def going_back(tower, way, worth):
    """Tell the one worth of a way's first kind that goes up to a worth of its last kind, None without one."""
    need_tower(tower)
    need_way(tower, way)
    if not _does_keep(tower, way):
        raise BadWay("there is no going back by a way that doesn't keep")
    need_among_worths(tower[0][way[-1]], worth)
    return _gone_back(tower, way, worth)


def twins_of(tower, number):
    """List the TWINS of a MIXED number, by kinds rising."""
    need_tower(tower)
    need_number_of(tower, number)
    return _twins(tower, reach_of(tower), number)


def plainest_twin(tower, number):
    """Tell the TWIN whose kind has ways to those of all others, the number itself without one."""
    need_tower(tower)
    need_number_of(tower, number)
    above = reach_of(tower)
    twins = _twins(tower, above, number)
    for twin in twins:
        if all([is_above(above, twin[0], other[0]) for other in twins]):
            return twin
    return number


def _does_keep(tower, way):
    """Tell whether a WAY KEEPS, both known to be good."""
    return keeps(tower[0][way[0]], way_card(tower, way))


def _gone_back(tower, way, worth):
    """Tell what goes up to a worth by a way that keeps, None without one: a guess, taken if it does go up to it."""
    try:
        guess = _guess(tower, way, worth)
        return guess if guess is not None and carried(tower, way, guess) == worth else None
    except TooGreat:
        return None


def _guess(tower, way, worth):
    """Tell the only worth of a way's first kind that might go up to a worth of its last kind, None without one."""
    first, last = tower[0][way[0]], tower[0][way[-1]]
    if len(way) == 1 or first[0] == "sure":
        return worth
    if first[0] in FINITE:
        row = way_card(tower, way)[1]
        return row.index(worth) if worth in row else None
    number = _number_at(last, worth)
    if first[0] == "about":
        return nearest(first[1], number)
    if first[0] == "whole":
        return number[0]
    return number if first[0] == "share" else (number, NOUGHT)


def _number_at(kind, worth):
    """Tell the FRACTION that a worth of a share, root, about or sure kind is, or, if it is none, one that it isn't."""
    if kind[0] == "about":
        return number_told(worth)
    return worth if kind[0] == "share" else worth[0]


def _twins(tower, above, number):
    """List the TWINS of a MIXED number, itself where its kind stands."""
    found = []
    for other in range(len(tower[0])):
        worth = number[1] if other == number[0] else _twin_worth(tower, above, number, other)
        if worth is not None:
            found.append((other, worth))
    return found


def _twin_worth(tower, above, number, other):
    """Tell the worth of another kind whose likeness to a MIXED number is yes, None without one."""
    top = meeting_of(above, number[0], other)
    if top is None:
        return None
    way, back = first_between(tower, above, number[0], top), first_between(tower, above, other, top)
    if not _does_keep(tower, way) or not _does_keep(tower, back):
        return None
    come = carried(tower, way, number[1])
    # Of sure bounds both ends have to be alike.
    if tower[0][top][0] == "sure" and come[0] != come[1]:
        return None
    return _gone_back(tower, back, come)
