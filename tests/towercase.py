"""What the tests of towers share: good towers and bad ones; ways and worths carried, found in a way of the tests."""

from fractions import Fraction
from math import isqrt

from tests.test_figures import by_decimals
from tests.things import Case, OWN_SIX, OWN_TWO, THINGS
from towerwise.errors import BadTower

WHOLE, SHARE, ROOT, REST = ("whole",), ("share",), ("root", 2), ("rest", 6)
A1, A2, A3 = ("about", 1), ("about", 2), ("about", 3)
S0, S2, S6 = ("sure", 0), ("sure", 2), ("sure", 6)
# Three worths: plus as rests of three, times all noughts.
OWN_THREE = ("own", ((0, 1, 2), (1, 2, 0), (2, 0, 1)), ((0, 0, 0), (0, 0, 0), (0, 0, 0)))
# The field of four worths.
OWN_FOUR = ("own", ((0, 1, 2, 3), (1, 0, 3, 2), (2, 3, 0, 1), (3, 2, 1, 0)),
            ((0, 0, 0, 0), (0, 1, 2, 3), (0, 2, 3, 1), (0, 3, 1, 2)))


def steps(*pairs):
    """Make steps without a ROW of pairs of numbers, those with a row told as three."""
    return tuple(pair if len(pair) == 3 else pair + (None,) for pair in pairs)


LINE = ((WHOLE, SHARE, ROOT, S2), steps((0, 1), (1, 2), (2, 3)))
ROUNDS = ((WHOLE, SHARE, A3, A2, A1, S0), steps((0, 1), (0, 2), (0, 4), (1, 2), (1, 3), (2, 3), (2, 5), (3, 4), (4, 5)))
RESTS = ((WHOLE, ("rest", 12), ("rest", 6), ("rest", 4), ("rest", 2), OWN_TWO),
         steps((0, 1), (0, 3), (1, 2), (1, 3), (2, 4), (3, 4), (4, 5, (1, 0))))
OWNS = ((OWN_SIX, OWN_THREE, OWN_TWO, OWN_FOUR),
        steps((0, 1, (0, 1, 2, 0, 1, 2)), (0, 2, (0, 1, 0, 1, 0, 1)), (1, 3, (0, 3, 1)), (2, 3, (0, 0))))
# Numbers of kinds that fall up the steps.
FALLING = ((S6, S0, A2, ROOT, SHARE, WHOLE), steps((1, 0), (2, 1), (3, 1), (4, 2), (4, 3), (5, 4)))
# All eight kinds that go on to one another in order, with all steps that there may be.
EIGHT_KINDS = (WHOLE, SHARE, A1, A2, A3, ROOT, S0, S6)
EIGHT = (EIGHT_KINDS, steps(*[(one, other) for one in range(8) for other in range(one + 1, 8)
                              if (one, other) not in ((2, 5), (3, 5), (4, 5))]))
# Two kinds above both, neither above the other.
FORK = ((WHOLE, SHARE, A2, S2, REST), steps((0, 1), (0, 2), (0, 4), (1, 2), (1, 3)))
ALONE = ((OWN_SIX,), ())
APART = ((WHOLE, SHARE, ROOT, REST, A2, S2, OWN_TWO), ())
# Rests of six go to two own kinds; so do the own kinds to a third one.
SPLIT = ((REST, OWN_TWO, OWN_THREE, OWN_FOUR, ("rest", 3)),
         steps((0, 1, (0, 1) * 3), (0, 2, (0, 1, 2) * 2), (0, 4), (1, 3, (0, 1)), (2, 3, (3, 2, 1)), (4, 2, (2, 0, 1))))
GOOD_TOWERS = [LINE, ROUNDS, RESTS, OWNS, FALLING, EIGHT, FORK, ALONE, APART, SPLIT]

# What is no tower, with the place that BadTower tells.
BAD_TOWERS = [
    ((), ((WHOLE,),)), ((), ((WHOLE,), (), ())), ((), [(WHOLE,), ()]), ((), ([WHOLE], ())), ((), ((WHOLE,), [])),
    ((), ((), ())), ((), (tuple(("rest", many) for many in range(2, 11)), ())), ((), (WHOLE, None)), ((), (None, ())),
    ((0, 0), (("whole", "share"), ())), ((0, 0), ((("rest", 13), WHOLE, WHOLE), ((0, 0, 0),))),
    ((0, 1), ((WHOLE, None), ())), ((0, 1), ((WHOLE, WHOLE, None), (None,))), ((0, 2), ((WHOLE, A2, A2), ())),
    ((0, 1), ((WHOLE, ["share"]), ((0, 1, None),))), ((0, 7), (EIGHT_KINDS[:7] + (WHOLE,), ())),
    ((1, 0), ((WHOLE, SHARE), (None,))), ((1, 0), ((WHOLE, SHARE), ((0, 1),))), ((1, 0), ((WHOLE,), ((0, 0, None),))),
    ((1, 0), ((WHOLE, SHARE), ((1, 0, None), (0, 1, None)))), ((1, 1), ((WHOLE, SHARE), ((0, 1, None),) * 2)),
    ((1, 1), ((WHOLE, SHARE, ROOT), steps((0, 2), (0, 1)))), ((1, 0), ((WHOLE, SHARE), ((False, True, None),))),
    ((1, 1), ((A1, A2, SHARE), steps((0, 1), (1, 2), (1, 0)))), ((1, 0), ((WHOLE, SHARE), ((0, 2, None),))),
    ((2,), ((A1, A2), steps((0, 1), (1, 0)))), ((2,), ((S0, A1, S2, S6), steps((0, 2), (1, 0), (2, 3), (3, 0)))),
]


def ways_found(tower, one, other):
    """List all ways from one to other, in order, by going on from all that is found already."""
    ends = [step[:2] for step in tower[1]]
    found, going = [], [(one,)]
    while going:
        found += [way for way in going if way[-1] == other]
        going = [way + (end,) for way in going for start, end in ends if start == way[-1]]
    return sorted(found)


def above_found(tower, number):
    """List the kinds to which some way leads from one."""
    return [other for other in range(len(tower[0])) if ways_found(tower, number, other)]


def told(number):
    """Tell a Fraction of Python's as a FRACTION."""
    return (number.numerator, number.denominator)


def number_of(kind, worth):
    """Tell the Fraction that a worth of a whole, share or about kind is."""
    if kind[0] == "whole":
        return Fraction(worth)
    return Fraction(*worth) if kind[0] == "share" else worth[0] * Fraction(10) ** worth[1]


def bounds_of(one, other, worth):
    """Tell the sure bounds of a worth, by Fractions."""
    if one[0] == "sure":
        return worth
    if one[0] != "root":
        return (told(number_of(one, worth)),) * 2
    step = 10 ** other[1]
    low = isqrt(one[1] * step * step)
    first, second = Fraction(*worth[0]), Fraction(*worth[1])
    ends = [first + second * Fraction(end, step) for end in (low, low + 1)]
    return (told(min(ends)), told(max(ends)))


def lifted(tower, one, other, worth):
    """Tell what a worth becomes up a step, by Fractions and decimals."""
    how = [step[2] for step in tower[1] if step[:2] == (one, other)][0]
    start, end = tower[0][one], tower[0][other]
    if how is not None:
        return how[worth]
    if end[0] == "rest":
        return worth % end[1]
    if end[0] == "about":
        return by_decimals(end[1], number_of(start, worth))
    if end[0] == "sure":
        return bounds_of(start, end, worth)
    number = told(number_of(start, worth))
    return number if end[0] == "share" else (number, (0, 1))


def carried(tower, way, worth):
    """Tell what a worth becomes up a way, step by step."""
    for one, other in zip(way, way[1:]):
        worth = lifted(tower, one, other, worth)
    return worth


def some_worths(kind):
    """List some worths of a kind, all of a finite one."""
    if kind[0] in ("rest", "own"):
        return list(range(kind[1] if kind[0] == "rest" else len(kind[1])))
    if kind[0] == "whole":
        return [0, 1, -1, 7, 11, -12, 145, 995, 1001, -1045, 1495, 10 ** 60, 12345]
    if kind[0] == "about":
        fronts = (1, -2, 5, 9) if kind[1] == 1 else (1, -2, 5, 15, -95, 99)
        return [(0, 0)] + [(front, power) for front in fronts for power in (0, 1, -1, 5, -40)]
    shares = [(0, 1), (1, 1), (-1, 2), (7, 3), (-145, 1), (29, 20), (10 ** 60, 7)]
    if kind[0] == "share":
        return shares
    pairs = [(one, other) for one in shares for other in shares]
    return pairs if kind[0] == "root" else [(one, other) for one, other in pairs if Fraction(*one) <= Fraction(*other)]


class TowerCase(Case):
    """Tests of functions that are handed a tower first."""

    def refuses_towers(self, function, *behinds):
        """Of what is no tower BadTower tells the place, whatever stands behind it."""
        for place, thing in BAD_TOWERS:
            for behind in behinds:
                self.refused_with(BadTower, {"place": place}, function, thing, *behind)
        for thing in THINGS:
            paired = type(thing) is tuple and [type(part) for part in thing] == [tuple, tuple]
            self.refused_with(BadTower, {"place": (0, 0) if paired else ()}, function, thing, *behinds[0])
