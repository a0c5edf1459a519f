"""Going up steps and ways of a tower."""

from itertools import pairwise

from towerwise.errors import BadWay
from towerwise.figures import nearest, number_told
from towerwise.fractions import NOUGHT, ends_of, product_of, sum_of
from towerwise.refusals import need_small
from towerwise.sure import root_bounds
from towerwise.towers import need_tower
from towerwise.words import is_among
from towerwise.worths import need_among_worths


def is_way(tower, thing):
    """Tell whether thing is a WAY of a tower."""
    need_tower(tower)
    return steps_along(tower, thing) is not None


def need_way(tower, way):
    """Refuse with BadWay what is no WAY of a good tower; list its steps."""
    steps = steps_along(tower, way)
    if steps is None:
        raise BadWay("this is no way of the tower")
    return steps


def steps_along(tower, thing):
    """List the steps along which a thing goes up a good tower, None where it is no WAY."""
    if not isinstance(thing, tuple) or len(thing) == 0:
        return None
    last = len(tower[0]) - 1
    for number in thing:
        if not is_among(number, 0, last):
            return None
    found = [_step_between(tower[1], one, other) for one, other in pairwise(thing)]
    return None if None in found else found


def _step_between(steps, one, other):
    """Tell the step that leads from one kind to another, None without one."""
    for step in steps:
        if step[0] == one and step[1] == other:
            return step
    return None


def up_step(tower, one, other, worth):
    """Tell what a worth becomes up the step from one kind to another."""
    need_tower(tower)
    return _gone_up(tower, (one, other), worth)


def gone_up(tower, way, worth):
    """Tell what a worth of the first kind becomes up a WAY."""
    need_tower(tower)
    return _gone_up(tower, way, worth)


def _gone_up(tower, way, worth):
    """Tell the same of a good tower."""
    steps = need_way(tower, way)
    need_among_worths(tower[0][way[0]], worth)
    return carried(tower[0], steps, worth)


def carried(kinds, steps, worth):
    """Tell what a worth becomes along steps of some kinds, all of them known to be good."""
    for one, other, how in steps:
        worth = lifted(kinds[one], kinds[other], how, worth)
    return worth


def lifted(one, other, how, worth):
    """Tell what a worth of one kind becomes in another one up a step, all of them known to be good."""
    if how is not None:
        return how[worth]
    if other[0] == "rest":
        return worth % other[1]
    if other[0] == "about":
        return nearest(other[1], _number_of(one, worth))
    if other[0] == "sure":
        ends = _ends_of(one, other, worth)
        need_small(ends)
        return ends
    number = _number_of(one, worth)
    need_small([number])
    return number if other[0] == "share" else (number, NOUGHT)


def _number_of(kind, worth):
    """Tell the FRACTION that a worth of a whole, share or about kind is."""
    if kind[0] == "whole":
        return (worth, 1)
    return worth if kind[0] == "share" else number_told(worth)


def _ends_of(one, other, worth):
    """Tell the bounds in a sure kind that hold a worth of any kind below it."""
    if one[0] == "sure":
        return worth
    if one[0] != "root":
        number = _number_of(one, worth)
        return (number, number)
    ends = [sum_of(worth[0], product_of(worth[1], end)) for end in root_bounds(one[1], other[1])]
    return ends_of(ends)
