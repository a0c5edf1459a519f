"""[42] Where two ways of the same ends tell otherwise: towerwise.differ."""

from itertools import combinations, product

from tests.test_cards import SHORT, card_found
from tests.test_figures import by_decimals
from tests.things import OWN_SIX, OWN_TWO, THINGS
from tests.towercase import (A1, A2, A3, ALONE, APART, EIGHT, FALLING, FORK, GOOD_TOWERS, LINE, OWN_FOUR, OWN_THREE,
                             OWNS, REST, RESTS, ROOT, ROUNDS, S0, S2, S6, SHARE, SPLIT, TowerCase, WHOLE, carried,
                             some_worths, steps, ways_found)
from towerwise.differ import differ_at, uneven_ways
from towerwise.errors import BadWay
from towerwise.going import is_way

# From whole, share and each kind about some figures go all ways of rounding there are.
ALL_ROWS = ((WHOLE, SHARE, A3, A2, A1, S0),
            steps((0, 1), (0, 2), (0, 3), (0, 4), (0, 5), (1, 2), (1, 3), (1, 4), (1, 5), (2, 3), (2, 4), (2, 5),
                  (3, 4),
                  (3, 5), (4, 5)))
ROOTS = ((ROOT, S0, S2, S6, WHOLE, SHARE),
         steps((0, 1), (0, 2), (0, 3), (1, 3), (2, 1), (4, 0), (4, 3), (4, 5), (5, 0), (5, 2)))
# Rests of four and of six go on to one own kind by rows that meet for long.
LATE = ((WHOLE, ("rest", 4), ("rest", 6), OWN_TWO),
        ((0, 1, None), (0, 2, None), (1, 3, (0, 1, 0, 1)), (2, 3, (0, 1, 0, 1, 0, 0))))
TOWERS = GOOD_TOWERS + [SHORT, ALL_ROWS, ROOTS, LATE]


def as_worth(kind, number):
    """Tell a whole number as a worth of a kind, None where it is none."""
    if kind[0] == "whole":
        return number
    if kind[0] == "share":
        return (number, 1)
    worth = by_decimals(kind[1], number)
    return worth if worth[0] * 10 ** worth[1] == number else None


def parting_found(tower, one, other):
    """Tell the least worth that comes to something else up the other way: looked for one by one."""
    kind = tower[0][one[0]]
    if kind[0] == "root":
        return ((0, 1), (1, 1))
    if kind[0] in ("rest", "own"):
        return [worth for worth in some_worths(kind) if carried(tower, one, worth) != carried(tower, other, worth)][0]
    for number in range(2000):
        worth = as_worth(kind, number)
        if worth is not None and carried(tower, one, worth) != carried(tower, other, worth):
            return worth
    return None


class DifferAt(TowerCase):
    def setUp(self):
        self.known = {}

    def wanted(self, tower, one, other):
        """Tell what is due for two ways; by kind and cards, so that no numbers are looked through twice."""
        cards = (card_found(tower, one), card_found(tower, other))
        if cards[0] == cards[1]:
            return None
        key = (tower[0][one[0]],) + tuple(sorted(cards))
        if key not in self.known:
            self.known[key] = parting_found(tower, one, other)
            self.assertIsNotNone(self.known[key])
        return self.known[key]

    def test_all_ways_of_the_same_ends(self):
        for tower in TOWERS:
            for one, other in product(range(len(tower[0])), repeat=2):
                ways = ways_found(tower, one, other)
                for left, right in list(combinations(ways, 2))[::1 if tower != EIGHT else 7]:
                    self.told(self.wanted(tower, left, right), differ_at, tower, left, right)
                    self.told(self.wanted(tower, left, right), differ_at, tower, right, left)
                for way in ways:
                    self.told(None, differ_at, tower, way, way)

    def test_alike_cards_tell_the_same(self):
        for tower in TOWERS:
            for one, other in product(range(len(tower[0])), repeat=2):
                for left, right in list(combinations(ways_found(tower, one, other), 2))[:20]:
                    if card_found(tower, left) == card_found(tower, right):
                        for worth in some_worths(tower[0][one])[:15]:
                            self.assertEqual(carried(tower, left, worth), carried(tower, right, worth))

    def test_of_finite_kinds(self):
        self.told(1, differ_at, OWNS, (0, 1, 3), (0, 2, 3))
        self.told(0, differ_at, SPLIT, (0, 2), (0, 4, 2))
        tower = ((REST, OWN_TWO, OWN_THREE, OWN_FOUR),
                 steps((0, 1, (0, 1) * 3), (0, 2, (0, 1, 0, 1, 0, 2)), (1, 3, (2, 3)), (2, 3, (2, 3, 0))))
        self.told(5, differ_at, tower, (0, 1, 3), (0, 2, 3))
        self.told(5, differ_at, tower, (0, 2, 3), (0, 1, 3))

    def test_of_whole_to_finite_kinds(self):
        # 0 1 0 1 0 1 .. and 0 1 0 1 0 0 0 1 ..: at five.
        self.told(5, differ_at, LATE, (0, 1, 3), (0, 2, 3))
        self.told(2, differ_at, SHORT, (0, 1, 4), (0, 2, 4))
        self.told(None, differ_at, RESTS, (0, 1, 2, 4, 5), (0, 3, 4, 5))
        for place in range(12):
            row = tuple(1 if number == place else 0 for number in range(12))
            tower = ((WHOLE, ("rest", 12), ("rest", 11), OWN_TWO),
                     ((0, 1, None), (0, 2, None), (1, 3, row), (2, 3, (0,) * 11)))
            self.told(place, differ_at, tower, (0, 1, 3), (0, 2, 3))

    def test_rows_that_go_round_part_late(self):
        # Rests of twelve and of eleven: both rows are alike up to ten, beyond it they go round at unlike places.
        tower = ((WHOLE, ("rest", 12), ("rest", 11), OWN_SIX),
                 ((0, 1, None), (0, 2, None), (1, 3, (1,) + (0,) * 11), (2, 3, (1,) + (0,) * 10)))
        self.told(11, differ_at, tower, (0, 1, 3), (0, 2, 3))
        tower = ((WHOLE, ("rest", 10), ("rest", 8), OWN_TWO),
                 ((0, 1, None), (0, 2, None), (1, 3, (0, 1) * 4 + (0, 0)), (2, 3, (0, 1) * 4)))
        self.told(9, differ_at, tower, (0, 1, 3), (0, 2, 3))

    def test_of_roots(self):
        for one, other in (((0, 1), (0, 2, 1)), ((0, 3), (0, 1, 3)), ((0, 2, 1, 3), (0, 3)), ((0, 1, 3), (0, 2, 1, 3))):
            self.told(((0, 1), (1, 1)), differ_at, ROOTS, one, other)
        self.told(None, differ_at, ((ROOT, S2, S0, S6), steps((0, 1), (1, 2), (1, 3), (2, 3))), (0, 1, 3), (0, 1, 2, 3))

    def test_of_whole_and_share_through_roots(self):
        self.told(None, differ_at, ROOTS, (4, 3), (4, 0, 2, 1, 3))
        self.told(None, differ_at, ROOTS, (4, 5, 2, 1), (4, 0, 1))
        self.told(None, differ_at, LINE, (0, 1, 2, 3), (0, 1, 2, 3))

    def test_of_figures_by_hand(self):
        for one, other, number in (
                ((5,), (4, 5), 11), ((5,), (3, 5), 101), ((5,), (2, 5), 1001), ((4, 5), (3, 4, 5), 145),
                ((4, 5), (2, 4, 5), 1495), ((3, 5), (2, 3, 5), 1045), ((3, 4, 5), (2, 3, 4, 5), 1445),
                ((2, 4, 5), (2, 3, 4, 5), 145), ((2, 5), (3, 5), 101), ((3, 5), (4, 5), 11)):
            self.told(number, differ_at, ALL_ROWS, (0,) + one, (0,) + other)
            self.told((number, 1), differ_at, ALL_ROWS, (1,) + other, (1,) + one)
            self.told(number, differ_at, ALL_ROWS, (0, 1) + one, (0,) + other)

    def test_of_kinds_about_some_figures(self):
        for one, other, worth in (((2, 5), (2, 3, 5), (101, 0)), ((2, 5), (2, 4, 5), (11, 0)),
                                  ((2, 4, 5), (2, 3, 4, 5), (145, 0)), ((3, 5), (3, 4, 5), (11, 0)),
                                  ((2, 3, 5), (2, 3, 4, 5), (11, 0)), ((2, 4), (2, 3, 4), (145, 0))):
            self.told(worth, differ_at, ALL_ROWS, one, other)

    def test_of_sure_kinds(self):
        tower = ((S0, S2, S6), steps((0, 1), (0, 2), (1, 2)))
        self.told(None, differ_at, tower, (0, 2), (0, 1, 2))


class Uneven(TowerCase):
    def test_all(self):
        for tower in TOWERS:
            wanted = None
            for one, other in product(range(len(tower[0])), repeat=2):
                ways = ways_found(tower, one, other)
                unlike = [way for way in ways if card_found(tower, way) != card_found(tower, ways[0])]
                if unlike and wanted is None:
                    wanted = (ways[0], unlike[0], parting_found(tower, ways[0], unlike[0]))
            self.told(wanted, uneven_ways, tower)

    def test_by_hand(self):
        for tower, wanted in ((LINE, None), (RESTS, None), (FORK, None), (ALONE, None), (APART, None),
                              (ROUNDS, ((0, 1, 2, 3), (0, 1, 3), 1045)), (OWNS, ((0, 1, 3), (0, 2, 3), 1)),
                              (FALLING, ((4, 2, 1, 0), (4, 3, 1, 0), (101, 1))), (SPLIT, ((0, 2), (0, 4, 2), 0)),
                              (LATE, ((0, 1, 3), (0, 2, 3), 5)), (ROOTS, ((0, 1), (0, 2, 1), ((0, 1), (1, 1)))),
                              (EIGHT, ((0, 1, 2, 3), (0, 1, 3), 11))):
            self.told(wanted, uneven_ways, tower)

    def test_the_first_one_with_another_card(self):
        # From 0 to 4 there are three ways; the second one tells what the first one does.
        tower = ((WHOLE, SHARE, ("root", 2), A2, S0), steps((0, 1), (0, 2), (0, 3), (1, 4), (2, 4), (3, 4)))
        self.told(((0, 1, 4), (0, 3, 4), 101), uneven_ways, tower)

    def test_of_the_first_pair(self):
        # 2 and 3 come ahead of 2 and 4; from 0 and 1 no ways differ.
        tower = ((WHOLE, OWN_TWO, REST, OWN_THREE, OWN_FOUR),
                 steps((2, 1, (0, 1) * 3), (2, 3, (0, 1, 2) * 2), (2, 4, (3,) * 6), (1, 3, (0, 0)), (3, 4, (1, 2, 3))))
        tower = (tower[0], tuple(sorted(tower[1], key=lambda step: step[:2])))
        self.told(((2, 1, 3), (2, 3), 1), uneven_ways, tower)

    def test_kinds_that_fall(self):
        tower = ((S0, A1, A2, A3), steps((1, 0), (2, 0), (2, 1), (3, 1), (3, 2)))
        self.told(((2, 0), (2, 1, 0), (11, 0)), uneven_ways, tower)


class Refusals(TowerCase):
    def test_towers(self):
        self.refuses_towers(differ_at, ((0,), (0,)), (None, None))
        self.refuses_towers(uneven_ways, ())

    def test_ways(self):
        for tower, good in ((LINE, (0, 1)), (ALL_ROWS, (0, 2, 5)), (RESTS, (0,))):
            for way in ((), [0], (0, 0), (1, 0), (True,), (0, True), None, 0, (9,), (-1,), ((0,),), "0"):
                self.refused(BadWay, differ_at, tower, way, good)
                self.refused(BadWay, differ_at, tower, good, way)
                self.refused(BadWay, differ_at, tower, way, way)
        for thing in THINGS:
            if not is_way(LINE, thing):
                self.refused(BadWay, differ_at, LINE, thing, (0,))
                self.refused(BadWay, differ_at, LINE, (0,), thing)

    def test_unlike_ends(self):
        for one, other in (((0,), (1,)), ((0, 1), (0, 1, 2)), ((0, 1, 2), (1, 2)), ((2,), (1, 2)), ((0, 1), (1, 2))):
            self.refused(BadWay, differ_at, LINE, one, other)
            self.refused(BadWay, differ_at, LINE, other, one)
        for one, other in combinations(ways_found(EIGHT, 0, 4) + ways_found(EIGHT, 1, 4) + ways_found(EIGHT, 1, 7), 2):
            if one[0] != other[0] or one[-1] != other[-1]:
                self.refused(BadWay, differ_at, EIGHT, one, other)
