"""[33] Going up steps and WAYS: towerwise.going."""

from fractions import Fraction
from itertools import product

from tests.test_worths import is_good
from tests.things import THINGS
from tests.towercase import (A1, A2, A3, ALONE, EIGHT, FALLING, FORK, GOOD_TOWERS, LINE, OWNS, RESTS, ROOT, ROUNDS, S0,
                             S2, S6, SHARE, SPLIT, TowerCase, WHOLE, carried, lifted, some_worths, steps, told,
                             ways_found)
from towerwise.deeds import deed_done
from towerwise.errors import BadWay, BadWorth, TooGreat
from towerwise.going import gone_up, is_way, up_step
from towerwise.worths import is_worth

BOUND = 10 ** 300
NOUGHT, ONE = (0, 1), (1, 1)
NO_WAYS = [(), None, True, 0, [0], [0, 1], "01", (True,), (False,), (0, True), (False, 1), (None,), ((0,),), (0, None),
           ("0",), (-1,), (0, -1), (8,), (0, 8), (10 ** 60,), {0: 1}, (0, 0), (1, 1), (0, 1, 1), (0, 0, 1), (1, 0)]


def step_tower(one, other):
    """Make a tower of two kinds and the step between them."""
    return ((one, other), ((0, 1, None),))


class Ways(TowerCase):
    def test_all_short_tuples(self):
        for tower in GOOD_TOWERS:
            numbers = range(-1, len(tower[0]) + 1)
            ends = [step[:2] for step in tower[1]]
            for length in (1, 2, 3):
                for way in product(numbers, repeat=length):
                    wanted = all(0 <= number < len(tower[0]) for number in way)
                    wanted = wanted and all(pair in ends for pair in zip(way, way[1:]))
                    self.told(wanted, is_way, tower, way)

    def test_all_ways(self):
        for tower in GOOD_TOWERS:
            for one, other in product(range(len(tower[0])), repeat=2):
                for way in ways_found(tower, one, other):
                    self.told(True, is_way, tower, way)
                    self.told(False, is_way, tower, way + way[-1:])
                    self.told(False, is_way, tower, list(way))
                    self.told(False, is_way, tower, (way,))
                    if len(way) > 1:
                        self.told(False, is_way, tower, way[::-1])

    def test_of_one_to_eight_kinds(self):
        sures = tuple(("sure", places) for places in range(7)) + (WHOLE,)
        tower = (sures, steps((0, 1), (1, 2), (2, 3), (3, 4), (4, 5), (5, 6), (7, 0)))
        way = (7, 0, 1, 2, 3, 4, 5, 6)
        for start, end in product(range(8), range(1, 9)):
            self.told(start < end, is_way, tower, way[start:end])
        self.told(((5, 1), (5, 1)), gone_up, tower, way, 5)

    def test_things_of_every_kind(self):
        for thing in NO_WAYS + THINGS:
            for tower in (LINE, OWNS):
                good = type(thing) is tuple and [type(part) for part in thing] in ([int], [int, int], [int] * 3)
                good = good and thing in ((0,), (1,), (2,), (3,), (0, 1), (1, 2), (2, 3), (0, 1, 2), (1, 2, 3))
                if tower == LINE:
                    self.told(good, is_way, tower, thing)
                elif not good:
                    self.told(thing in ((0, 2), (1, 3)) and type(thing) is tuple, is_way, tower, thing)

    def test_refusals(self):
        self.refuses_towers(is_way, ((0,),), (None,))


class Steps(TowerCase):
    def test_all(self):
        for tower in GOOD_TOWERS:
            for one, other, _ in tower[1]:
                for worth in some_worths(tower[0][one]):
                    wanted = lifted(tower, one, other, worth)
                    self.told(wanted, up_step, tower, one, other, worth)
                    self.told(wanted, gone_up, tower, (one, other), worth)
                    self.told(True, is_worth, tower[0][other], wanted)

    def test_each_sort_by_hand(self):
        for one, other, worth, wanted in (
                (WHOLE, SHARE, -5, (-5, 1)), (WHOLE, ROOT, 7, ((7, 1), NOUGHT)), (WHOLE, ("rest", 5), -7, 3),
                (WHOLE, ("rest", 12), 25, 1), (WHOLE, A1, 145, (1, 2)), (WHOLE, A2, 145, (15, 1)),
                (WHOLE, A3, 0, (0, 0)),
                (WHOLE, S2, -3, ((-3, 1), (-3, 1))), (SHARE, ROOT, (2, 3), ((2, 3), NOUGHT)),
                (SHARE, A2, (-2, 3), (-67, -2)), (SHARE, S0, (1, 3), ((1, 3), (1, 3))),
                (("rest", 12), ("rest", 4), 11, 3), (("rest", 6), ("rest", 2), 5, 1), (A3, A1, (125, -2), (1, 0)),
                (A3, A2, (125, -2), (13, -1)), (A1, A3, (9, 400), (9, 400)), (A2, S0, (-25, -2), ((-1, 4), (-1, 4))),
                (A1, S6, (3, 2), ((300, 1), (300, 1))), (S2, S0, ((1, 3), (1, 2)), ((1, 3), (1, 2)))):
            self.told(wanted, up_step, step_tower(one, other), 0, 1, worth)

    def test_rows(self):
        self.told([1, 0], lambda: [up_step(RESTS, 4, 5, worth) for worth in (0, 1)])
        self.told([0, 3, 1], lambda: [up_step(OWNS, 1, 3, worth) for worth in (0, 1, 2)])

    def test_from_root_to_sure_by_hand(self):
        for root, places, worth, wanted in (
                (2, 0, (NOUGHT, ONE), (ONE, (2, 1))), (2, 0, (NOUGHT, (-1, 1)), ((-2, 1), (-1, 1))),
                (2, 1, (NOUGHT, ONE), ((7, 5), (3, 2))), (2, 0, (ONE, (3, 1)), ((4, 1), (7, 1))),
                (2, 0, (ONE, (-3, 1)), ((-5, 1), (-2, 1))), (2, 0, ((-1, 2), (1, 2)), (NOUGHT, (1, 2))),
                (2, 6, (NOUGHT, ONE), ((1414213, 10 ** 6), (707107, 500000))), (3, 2, (ONE, NOUGHT), (ONE, ONE)),
                (59, 0, ((-7, 1), ONE), (NOUGHT, ONE)), (5, 2, ((-2, 1), (-1, 1)), ((-106, 25), (-423, 100)))):
            self.told(wanted, up_step, step_tower(("root", root), ("sure", places)), 0, 1, worth)

    def test_from_root_to_sure_holds_the_number(self):
        for root, places in product((2, 3, 7, 58, 59), range(7)):
            tower = step_tower(("root", root), ("sure", places))
            for first, second in product((Fraction(0), Fraction(5, 3), Fraction(-5, 3)), repeat=2):
                low, high = up_step(tower, 0, 1, (told(first), told(second)))
                low, high = Fraction(*low), Fraction(*high)
                self.assertEqual(high - low, abs(second) / 10 ** places)
                if second != 0:
                    ends = sorted([(low - first) / second, (high - first) / second])
                    self.assertTrue(ends[0] >= 0 and ends[0] ** 2 < root < ends[1] ** 2)
                else:
                    self.assertEqual((low, high), (first, first))

    def test_no_step(self):
        for tower in GOOD_TOWERS:
            ends = [step[:2] for step in tower[1]]
            for one, other in product(range(-1, len(tower[0]) + 1), repeat=2):
                if (one, other) not in ends:
                    self.refused(BadWay, up_step, tower, one, other, 0)
                    self.refused(BadWay, up_step, tower, one, other, None)


class GoneUp(TowerCase):
    def test_along_all_ways(self):
        for tower in GOOD_TOWERS:
            for one, other in product(range(len(tower[0])), repeat=2):
                for way in ways_found(tower, one, other):
                    worths = some_worths(tower[0][one])
                    for worth in worths if len(worths) < 12 else worths[len(way)::5]:
                        self.told(carried(tower, way, worth), gone_up, tower, way, worth)

    def test_staying(self):
        for tower in GOOD_TOWERS:
            for number, kind in enumerate(tower[0]):
                for worth in some_worths(kind):
                    self.told(worth, gone_up, tower, (number,), worth)

    def test_by_hand(self):
        for tower, way, worth, wanted in (
                (ROUNDS, (0, 1, 2, 3, 4), 1445, (2, 3)), (ROUNDS, (0, 4), 1445, (1, 3)),
                (ROUNDS, (0, 1, 2, 3), 1445, (15, 2)), (ROUNDS, (0, 2, 3, 4, 5), 1495, ((2000, 1), (2000, 1))),
                (ROUNDS, (0, 1, 3, 4, 5), 145, ((200, 1), (200, 1))), (RESTS, (0, 1, 2, 4, 5), -1, 0),
                (LINE, (0, 1, 2, 3), 5, ((5, 1), (5, 1))), (LINE, (2, 3), (ONE, ONE), ((241, 100), (121, 50))),
                (OWNS, (0, 1, 3), 4, 3), (SPLIT, (0, 4, 2, 3), 1, 3), (FALLING, (5, 4, 3, 1, 0), 2, ((2, 1), (2, 1))),
                (EIGHT, (0, 1, 4, 3, 2), 7, None), (FORK, (0, 1, 2), 125, (13, 1)), (ALONE, (0,), 5, 5)):
            if wanted is None:
                self.refused(BadWay, gone_up, tower, way, worth)
            else:
                self.told(wanted, gone_up, tower, way, worth)

    def test_what_came_may_go_on(self):
        great = BOUND - 1
        product_of_two = deed_done(WHOLE, "times", 10 ** 150, -10 ** 149 - 1)
        self.told((product_of_two, 1), gone_up, LINE, (0, 1), product_of_two)
        self.told(((great, 1), NOUGHT), gone_up, LINE, (0, 1, 2), great)
        bounds = gone_up(LINE, (0, 1, 2, 3), great)
        self.told(bounds, gone_up, LINE, (3,), bounds)


class PowersTooGreat(TowerCase):
    def either(self, one, other, fine, great):
        """Up the step the one worth goes, the other one doesn't."""
        tower = step_tower(one, other)
        self.told(lifted(tower, 0, 1, fine), up_step, tower, 0, 1, fine)
        self.refused(TooGreat, up_step, tower, 0, 1, great)
        self.refused(TooGreat, gone_up, tower, (0, 1), great)

    def test_above_and_below(self):
        for sign in (1, -1):
            for other in (SHARE, ROOT, S0, S6):
                self.either(WHOLE, other, sign * BOUND, sign * (BOUND + 1))
            for other in (ROOT, S0):
                self.either(SHARE, other, (sign * BOUND, 7), (sign * (BOUND + 1), 7))
                self.either(SHARE, other, (sign, BOUND), (sign, BOUND + 1))
            for one in (A1, A2, A3):
                self.either(one, S2, (sign, 300), (sign * 2, 300))
                self.either(one, S2, (sign, -300), (sign, -301))
                self.either(one, S2, (sign * 9, 299), (sign * 9, 400))
            self.either(A3, S2, (sign * 999, 297), (sign * 999, 298))
            self.either(A3, S2, (sign * 512, -302), (sign * 512, -303))

    def test_bounds_as_they_are(self):
        self.either(S2, S0, (NOUGHT, (BOUND, 1)), (NOUGHT, (BOUND + 1, 1)))
        self.either(S2, S0, ((-BOUND, 1), ONE), ((-BOUND - 1, 1), ONE))
        self.either(S2, S0, ((1, BOUND), ONE), ((1, BOUND + 1), ONE))

    def test_from_root_to_sure(self):
        self.either(ROOT, S0, ((BOUND - 2, 1), ONE), ((BOUND - 1, 1), ONE))
        self.either(ROOT, S0, (NOUGHT, (BOUND // 2, 1)), (NOUGHT, (BOUND // 2 + 1, 1)))
        self.either(ROOT, S0, (NOUGHT, (-BOUND // 2, 1)), (NOUGHT, (-BOUND // 2 - 1, 1)))
        # An end alone is beyond it, though both worths go.
        self.either(ROOT, S6, ((1, 3), (1, 7)), ((1, BOUND), (1, BOUND - 1)))

    def test_rounded_ones(self):
        for one, other in ((A3, A1), (A3, A2)):
            self.either(one, other, (944, 398), (999, 400))
        self.either(A3, A1, (101, -400), (-951, 400))
        for one, worth in ((WHOLE, 10 ** 403), (SHARE, (10 ** 403, 1)), (SHARE, (1, 10 ** 401))):
            for other in (A1, A2):
                self.refused(TooGreat, up_step, step_tower(one, other), 0, 1, worth)

    def test_numbers_beyond_go_to_rests_and_are_rounded(self):
        self.told(4, up_step, step_tower(WHOLE, ("rest", 6)), 0, 1, 10 ** 302)
        self.told((1, 350), up_step, step_tower(WHOLE, A2), 0, 1, 10 ** 350)
        self.told((1, -400), up_step, step_tower(SHARE, A2), 0, 1, (1, 10 ** 400))

    def test_on_the_way(self):
        tower = ((WHOLE, SHARE, A1, S0, A3), steps((0, 1), (0, 2), (1, 2), (2, 3), (4, 2)))
        self.told((1, 301), gone_up, tower, (0, 2), 10 ** 301)
        self.refused(TooGreat, gone_up, tower, (0, 1, 2), 10 ** 301)
        self.refused(TooGreat, gone_up, tower, (0, 2, 3), 10 ** 301)
        self.refused(TooGreat, gone_up, tower, (4, 2, 3), (999, 400))
        self.told(((10 ** 300, 1), (10 ** 300, 1)), gone_up, tower, (4, 2, 3), (101, 298))

    def test_staying_is_never_too_great(self):
        for kind, worth in ((WHOLE, BOUND * 10), (SHARE, (BOUND * 10, 1)), (S0, (NOUGHT, (BOUND * 10, 1)))):
            self.told(worth, gone_up, ((kind,), ()), (0,), worth)


class Refusals(TowerCase):
    def test_towers(self):
        self.refuses_towers(up_step, (0, 1, 0), (None, None, None))
        self.refuses_towers(gone_up, ((0,), 0), (None, None))

    def test_no_ways(self):
        for tower in (LINE, RESTS, EIGHT):
            for way in NO_WAYS:
                if not is_way(tower, way):
                    self.refused(BadWay, gone_up, tower, way, 0)
                    self.refused(BadWay, gone_up, tower, way, None)
        self.refuses_others(BadWay, gone_up, lambda thing: type(thing) is tuple and is_way(LINE, thing), ahead=(LINE,),
                            behind=(0,))

    def test_no_numbers_of_steps(self):
        for thing in THINGS:
            if type(thing) is not int or thing != 0:
                self.refused(BadWay, up_step, LINE, thing, 1, 0)
            if type(thing) is not int or thing != 1:
                self.refused(BadWay, up_step, LINE, 0, thing, 0)
            self.refused(BadWay, up_step, LINE, thing, thing, None)

    def test_no_worths(self):
        for tower in GOOD_TOWERS:
            for one, other, _ in tower[1]:
                kind = tower[0][one]
                for thing in THINGS:
                    if not is_good(kind, thing):
                        self.refused(BadWorth, up_step, tower, one, other, thing)
                        self.refused(BadWorth, gone_up, tower, (one, other), thing)
                        self.refused(BadWorth, gone_up, tower, (one,), thing)

    def test_refusals_in_order(self):
        self.refused(BadWay, up_step, LINE, 1, 0, None)
        self.refused(BadWay, up_step, LINE, 0, 2, BOUND + 1)
        self.refused(BadWorth, up_step, LINE, 0, 1, (BOUND + 1, 1))
        self.refused(BadWorth, gone_up, LINE, (0, 1, 2), None)
        self.refused(BadWay, gone_up, LINE, (0, 1, 1), BOUND + 1)
        self.refused(TooGreat, gone_up, LINE, (0, 1, 2), BOUND + 1)
