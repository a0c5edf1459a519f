"""What the tests of MIXED numbers share: numbers of many towers, and how two of them stand, by Fractions."""

from fractions import Fraction
from math import isqrt

from tests.test_above import CROSS, TURNED, least_found
from tests.test_cards import SHORT, card_found
from tests.test_cardcheck import EVEN_OWNS, SURES
from tests.test_differ import ALL_ROWS, LATE, ROOTS
from tests.test_figures import by_decimals
from tests.things import THINGS
from tests.towercase import (A1, A2, A3, GOOD_TOWERS, ROOT, S0, S2, SHARE, TowerCase, WHOLE, above_found, carried,
                             number_of, some_worths, steps, told, ways_found)
from towerwise.errors import BadWorth, TooGreat
from towerwise.going import gone_up
from towerwise.mixed import is_mixed

# Numbers about some figures and roots meet in sure kinds; whole numbers come there by fewer figures.
MEETING = ((WHOLE, SHARE, A1, A2, A3, ROOT, S0, S2),
           steps((0, 2), (0, 5), (1, 3), (1, 5), (2, 4), (3, 4), (4, 6), (5, 7), (6, 7)))
# Whole numbers come to three figures by one figure; shares by two.
COARSE = ((WHOLE, A1, A2, A3, SHARE, S2), steps((0, 1), (1, 3), (2, 3), (3, 5), (4, 2)))
TOWERS = GOOD_TOWERS + [CROSS, TURNED, SHORT, EVEN_OWNS, SURES, ALL_ROWS, LATE, ROOTS, MEETING, COARSE]
BOUND = 10 ** 300
TO_GREAT = {"whole": BOUND + 7, "share": (BOUND + 7, 3), "root": ((BOUND + 7, 1), (1, 1)), "about": (9, 400),
            "sure": ((0, 1), (BOUND + 7, 1))}


def some_numbers(tower, step=1):
    """List some MIXED numbers of a tower, of each kind."""
    return [(number, worth) for number, kind in enumerate(tower[0]) for worth in some_worths(kind)[::step]]


def meeting_found(tower, one, other):
    """Tell the LEAST kind above both, None without one."""
    both = [number for number in above_found(tower, one) if number in above_found(tower, other)]
    least = least_found(tower, both)
    return least if type(least) is int else None


def first_ways(tower, top, *numbers):
    """List the FIRST ways of some numbers' kinds to one."""
    return [ways_found(tower, number[0], top)[0] for number in numbers]


def does_keep(tower, way):
    """Tell whether a way KEEPS."""
    word, row = card_found(tower, way)
    if word == "row":
        return len(set(row)) == len(row)
    first = tower[0][way[0]]
    return word == "places" or (word, row) == ("figures", ()) or word == "figures" and first == ("about",) + row


def bounds_found(kind, worth):
    """Tell the bounds of a worth of an about or sure kind as Fractions."""
    if kind[0] == "sure":
        return [Fraction(*end) for end in worth]
    return [number_of(kind, worth)] * 2


def rounded_by(row, number):
    """Tell what is left of a Fraction ROUNDED by all figures of a row."""
    for figures in row:
        worth = by_decimals(figures, number)
        number = worth[0] * Fraction(10) ** worth[1]
    return number


def stand_found(tower, one, other):
    """Tell how the one stands to the other: below, above, apart, alike, perhaps; None where they meet nowhere."""
    top = meeting_found(tower, one[0], other[0])
    if top is None:
        return None
    ways = first_ways(tower, top, one, other)
    left, right = carried(tower, ways[0], one[1]), carried(tower, ways[1], other[1])
    kind, keeping = tower[0][top], [does_keep(tower, way) for way in ways]
    if kind[0] in ("rest", "own"):
        return "apart" if left != right else "alike" if all(keeping) else "perhaps"
    if kind[0] in ("about", "sure"):
        return bounded(tower, ways, keeping, bounds_found(kind, left), bounds_found(kind, right))
    if left == right:
        return "alike" if all(keeping) else "perhaps"
    return "below" if is_below(kind, left, right) else "above"


def bounded(tower, ways, keeping, left, right):
    """Tell how bounds stand that came up two ways."""
    cards = [card_found(tower, way) for way in ways]
    if keeping == [True, True] and left == right and left[0] == left[1]:
        return "alike"
    if keeping != [True, True] and cards[0] != cards[1]:
        if keeping == [False, False]:
            return "perhaps"
        if keeping[0]:
            left = [rounded_by(cards[1][1], end) for end in left]
        else:
            right = [rounded_by(cards[0][1], end) for end in right]
    return "below" if left[1] < right[0] else "above" if right[1] < left[0] else "perhaps"


def is_below(kind, left, right):
    """Tell whether one of two unlike worths of a whole, share or root kind is less than the other."""
    if kind[0] != "root":
        return number_of(kind, left) < number_of(kind, right)
    one, other = between(kind, left), between(kind, right)
    return one[1] < other[0]


def between(kind, worth):
    """Tell two Fractions between which a worth is, near to each other if they can be; not of rests and own kinds."""
    if kind[0] == "sure":
        return tuple(Fraction(*end) for end in worth)
    if kind[0] != "root":
        return (number_of(kind, worth),) * 2
    first, second, step = Fraction(*worth[0]), Fraction(*worth[1]), 10 ** 200
    low = isqrt(kind[1] * step * step)
    ends = [first + second * Fraction(end, step) for end in (low, low + 1)]
    return (min(ends), max(ends))


def twins_found(tower, number):
    """List the TWINS: of all worths of each kind that might be one those whose likeness is yes."""
    found = []
    for other, kind in enumerate(tower[0]):
        if other == number[0]:
            found.append(number)
        else:
            found += [(other, worth) for worth in guesses(kind, tower[0][number[0]], number[1])
                      if stand_found(tower, number, (other, worth)) == "alike"]
    return found


def guesses(kind, start, worth):
    """List all worths of a kind that might be the same number as a worth of another kind."""
    if kind[0] in ("rest", "own"):
        return some_worths(kind)
    if start[0] in ("rest", "own"):
        return []
    if start[0] == "root" and worth[1] != (0, 1):
        return []
    number = Fraction(*worth[0]) if start[0] in ("root", "sure") else number_of(start, worth)
    if kind[0] == "whole":
        return [number.numerator] if number.denominator == 1 else []
    if kind[0] == "about":
        near = by_decimals(kind[1], number)
        return [near] if number_of(kind, near) == number and abs(near[1]) <= 400 else []
    share = told(number)
    return [{"share": share, "root": (share, (0, 1)), "sure": (share, share)}[kind[0]]]


class MixedCase(TowerCase):
    def refuses_numbers(self, function, ahead=(), last=True):
        """What is no MIXED number is refused with BadWorth at both places, things of every kind too."""
        for tower in TOWERS:
            good = (0, some_worths(tower[0][0])[0])
            bad = [None, (), (0,), good + (0,), list(good), (True, good[1]), (False, good[1]), (-1, good[1]),
                   (len(tower[0]), good[1]), (10 ** 60, good[1]), (good[0], None), (good[0], True), (good,), good[1:],
                   (str(good[0]), good[1]), (None, good[1]), ((0,), good[1]), good[::-1] + (0,), {good: good}]
            for thing in bad:
                self.refused(BadWorth, function, tower, *ahead, thing, *((good,) if last else ()))
                if last:
                    self.refused(BadWorth, function, tower, *ahead, good, thing)
                    self.refused(BadWorth, function, tower, *ahead, thing, thing)
        tower, good = MEETING, (1, (1, 2))
        for thing in THINGS:
            if not is_mixed(tower, thing):
                self.refused(BadWorth, function, tower, *ahead, thing, *((good,) if last else ()))
                if last:
                    self.refused(BadWorth, function, tower, *ahead, good, thing)
            self.refused(BadWorth, function, tower, *ahead, (thing, None), *((good,) if last else ()))

    def great_ones(self, tower):
        """List numbers of a tower that are TOO GREAT somewhere up, where some are."""
        found = []
        for number, kind in enumerate(tower[0]):
            if kind[0] in TO_GREAT:
                found.append((number, TO_GREAT[kind[0]]))
        return found


def is_great(tower, number, top):
    """Tell whether a number goes up TOO GREAT to a kind by its FIRST way."""
    try:
        gone_up(tower, ways_found(tower, number[0], top)[0], number[1])
    except TooGreat:
        return True
    return False
