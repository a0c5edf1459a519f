"""Going up steps and ways of a tower."""

from itertools import pairwise

from towerwise.errors import BadWay
from towerwise.figures import nearest, number_told
from towerwise.fractions import NOUGHT, ends_of, product_of, sum_of
from towerwise.refusals import need_small
from towerwise.sure import root_bounds
from towerwise.towers import need_tower
from towerwise.words import is_among
from towerwise.worths import need_among_worths


def is_way(tower, thing):
    """Tell whether thing is a WAY of a tower."""
    need_tower(tower)
    return leads_up(tower, thing)


def leads_up(tower, thing):
    """Tell whether thing is a WAY of a tower that is known to be good."""
    if not isinstance(thing, tuple) or len(thing) == 0:
        return False
    last = len(tower[0]) - 1
    if not all([is_among(number, 0, last) for number in thing]):
        return False
    hows = hows_of(tower)
    return all([pair in hows for pair in pairwise(thing)])


def hows_of(tower):
    """Tell the HOW of each step by its two numbers, in order."""
    return {(one, other): how for one, other, how in tower[1]}


def need_way(tower, way):
    """Refuse with BadWay what is no WAY of a good tower."""
    if not leads_up(tower, way):
        raise BadWay("this is no way of the tower")


def up_step(tower, one, other, worth):
    """Tell what a worth becomes up the step from one kind to another."""
    need_tower(tower)
    need_way(tower, (one, other))
    need_among_worths(tower[0][one], worth)
    return carried(tower, (one, other), worth)


def gone_up(tower, way, worth):
    """Tell what a worth of the first kind becomes up a WAY."""
    need_tower(tower)
    need_way(tower, way)
    need_among_worths(tower[0][way[0]], worth)
    return carried(tower, way, worth)


def carried(tower, way, worth):
    """Tell what a worth becomes up a WAY, all of them known to be good."""
    kinds, hows = tower[0], hows_of(tower)
    for one, other in pairwise(way):
        worth = lifted(kinds[one], kinds[other], hows[(one, other)], worth)
    return worth


def lifted(one, other, how, worth):
    """Tell what a worth of one kind becomes in another one up a step, all of them known to be good."""
    if how is not None:
        return how[worth]
    if other[0] == "rest":
        return worth % other[1]
    if other[0] == "about":
        return nearest(other[1], _number_of(one, worth))
    if other[0] == "sure":
        ends = _ends_of(one, other, worth)
        need_small(ends)
        return ends
    number = _number_of(one, worth)
    need_small([number])
    return number if other[0] == "share" else (number, NOUGHT)


def _number_of(kind, worth):
    """Tell the FRACTION that a worth of a whole, share or about kind is."""
    if kind[0] == "whole":
        return (worth, 1)
    return worth if kind[0] == "share" else number_told(worth)


def _ends_of(one, other, worth):
    """Tell the bounds in a sure kind that hold a worth of any kind below it."""
    if one[0] == "sure":
        return worth
    if one[0] != "root":
        number = _number_of(one, worth)
        return (number, number)
    ends = [sum_of(worth[0], product_of(worth[1], end)) for end in root_bounds(one[1], other[1])]
    return ends_of(ends)
