"""Going back by ways that keep, and TWINS: the same number in other kinds."""

from towerwise.cards import card_along
from towerwise.errors import BadWay, TooGreat
from towerwise.figures import nearest, number_told
from towerwise.fractions import NOUGHT
from towerwise.going import carried, need_way
from towerwise.kinds import FINITE
from towerwise.likeness import does_keep
from towerwise.mixed import need_number_of
from towerwise.paths import first_steps, least_in
from towerwise.towers import need_tower, plan_of
from towerwise.worths import need_among_worths


def going_back(tower, way, worth):
    """Tell the one worth of a way's first kind that goes up to a worth of its last kind, None without one."""
    need_tower(tower)
    steps = need_way(tower, way)
    kinds = tower[0]
    if not does_keep(kinds, way[0], steps):
        raise BadWay("there is no going back by a way that doesn't keep")
    need_among_worths(kinds[way[-1]], worth)
    return _gone_back(kinds, way[0], steps, worth)


def twins_of(tower, number):
    """List the TWINS of a MIXED number, by kinds rising."""
    leads, above = plan_of(tower)
    need_number_of(tower, number)
    return _twins(tower[0], leads, above, number)


def plainest_twin(tower, number):
    """Tell the TWIN whose kind has ways to those of all others, the number itself without one."""
    leads, above = plan_of(tower)
    need_number_of(tower, number)
    twins = _twins(tower[0], leads, above, number)
    for twin in twins:
        if all([above[twin[0]] >> other[0] & 1 for other in twins]):
            return twin
    return number


def _gone_back(kinds, number, steps, worth):
    """Tell what of a kind goes up to a worth along steps that keep, None without one.

    It is a guess, taken if it does go up to it.
    """
    try:
        guess = _guess(kinds, number, steps, worth)
        return guess if guess is not None and carried(kinds, steps, guess) == worth else None
    except TooGreat:
        return None


def _guess(kinds, number, steps, worth):
    """Tell the only worth of a kind that might go up to a worth along steps that keep, None without one."""
    first = kinds[number]
    if not steps or first[0] == "sure":
        return worth
    if first[0] in FINITE:
        row = card_along(kinds, number, steps)[1]
        return row.index(worth) if worth in row else None
    come = _number_at(kinds[steps[-1][1]], worth)
    if first[0] == "about":
        return nearest(first[1], come)
    if first[0] == "whole":
        return come[0]
    return come if first[0] == "share" else (come, NOUGHT)


def _number_at(kind, worth):
    """Tell the FRACTION that a worth of a share, root, about or sure kind is, or, if it is none, one that it isn't."""
    if kind[0] == "about":
        return number_told(worth)
    return worth if kind[0] == "share" else worth[0]


def _twins(kinds, leads, above, number):
    """List the TWINS of a MIXED number, itself where its kind stands."""
    found = []
    for other in range(len(kinds)):
        worth = number[1] if other == number[0] else _twin_worth(kinds, leads, above, number, other)
        if worth is not None:
            found.append((other, worth))
    return found


def _twin_worth(kinds, leads, above, number, other):
    """Tell the worth of another kind whose likeness to a MIXED number is yes, None without one."""
    top = least_in(above, above[number[0]] & above[other])
    if top is None:
        return None
    steps, back = first_steps(leads, above, number[0], top), first_steps(leads, above, other, top)
    if not does_keep(kinds, number[0], steps) or not does_keep(kinds, other, back):
        return None
    come = carried(kinds, steps, number[1])
    # Of sure bounds both ends have to be alike.
    if kinds[top][0] == "sure" and come[0] != come[1]:
        return None
    return _gone_back(kinds, other, back, come)
