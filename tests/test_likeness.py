"""[52], [53], [54] Ways that KEEP, BOUNDS, LIKENESS: towerwise.likeness."""

from itertools import product

from tests.mixedcase import (BOUND, COARSE, MEETING, MixedCase, TOWERS, between, does_keep, some_numbers, stand_found,
                             told)
from tests.test_above import CROSS, TURNED
from tests.test_cards import ways_of
from tests.test_worths import is_good
from tests.things import THINGS
from tests.towercase import (A1, A2, A3, APART, EIGHT, FALLING, FORK, LINE, OWNS, RESTS, ROOT, ROUNDS, S0, S2, S6,
                             SHARE, SPLIT, WHOLE, carried, number_of, some_worths, steps)
from towerwise.errors import BadWay, BadWorth, TooGreat
from towerwise.going import is_way
from towerwise.likeness import bounds_at, keeps_worths, likeness_of

LIKENESS = {"below": "no", "above": "no", "apart": "no", "alike": "yes", "perhaps": "perhaps", None: "perhaps"}
NO_WAYS = ((), [0], (0, 0), (1, 0), (True,), (0, True), None, 0, (9,), (-1,), ((0,),), "0")


class Keeps(MixedCase):
    def test_all_ways(self):
        for tower in TOWERS:
            for way in ways_of(tower):
                self.told(does_keep(tower, way), keeps_worths, tower, way)

    def test_ways_that_keep_never_make_unlike_worths_alike(self):
        for tower in TOWERS:
            for way in ways_of(tower):
                kind = tower[0][way[0]]
                if keeps_worths(tower, way) and kind[0] != "root":
                    worths = some_worths(kind)
                    self.assertEqual(len({carried(tower, way, worth) for worth in worths}), len(worths))

    def test_by_hand(self):
        for tower, way, wanted in (
                (LINE, (0,), True), (LINE, (2,), True), (LINE, (0, 1, 2, 3), True), (LINE, (2, 3), True),
                (ROUNDS, (0, 1), True), (ROUNDS, (0, 2), False), (ROUNDS, (1, 2), False), (ROUNDS, (2,), True),
                (ROUNDS, (2, 3), False), (ROUNDS, (2, 5), True), (ROUNDS, (4, 5), True), (ROUNDS, (5,), True),
                (ROUNDS, (0, 4, 5), False), (COARSE, (1, 3), True), (COARSE, (2, 3, 5), True),
                (COARSE, (0, 1, 3), False),
                (RESTS, (0,), True), (RESTS, (0, 1), False), (RESTS, (1,), True), (RESTS, (1, 2), False),
                (RESTS, (4, 5), True), (RESTS, (0, 1, 2, 4, 5), False), (OWNS, (0, 1), False), (OWNS, (1, 3), True),
                (OWNS, (2, 3), False), (SPLIT, (0, 4), False), (SPLIT, (4, 2), True), (SPLIT, (4, 2, 3), True),
                (FALLING, (5, 4, 3, 1, 0), True), (FALLING, (2, 1), True), (FALLING, (4, 2), False)):
            self.told(wanted, keeps_worths, tower, way)

    def test_whole_numbers_never_keep_to_rests(self):
        # Though no worth stands twice in the row that goes round.
        for many in range(2, 13):
            self.told(False, keeps_worths, ((WHOLE, ("rest", many)), steps((0, 1))), (0, 1))

    def test_from_kinds_about_some_figures(self):
        tower = ((A1, A2, A3, S0), steps((0, 1), (0, 2), (1, 2), (1, 3), (2, 3)))
        for way in ways_of(tower):
            self.told(True, keeps_worths, tower, way)
        tower = ((A3, A2, A1, SHARE), steps((0, 1), (0, 2), (1, 2), (3, 2)))
        for way in ways_of(tower):
            self.told(len(way) == 1, keeps_worths, tower, way)

    def test_refusals(self):
        self.refuses_towers(keeps_worths, ((0,),), (None,))
        for tower in (LINE, RESTS, EIGHT):
            for way in NO_WAYS:
                if not is_way(tower, way):
                    self.refused(BadWay, keeps_worths, tower, way)
        for thing in THINGS:
            if not is_way(LINE, thing):
                self.refused(BadWay, keeps_worths, LINE, thing)


class Bounds(MixedCase):
    def test_all_ways(self):
        for tower in TOWERS:
            for way in ways_of(tower):
                start, end = tower[0][way[0]], tower[0][way[-1]]
                worths = some_worths(start)
                for worth in worths[len(way)::1 + len(worths) // 5]:
                    if end[0] == "sure":
                        self.told(carried(tower, way, worth), bounds_at, tower, way, worth)
                    elif end[0] == "about":
                        number = told(number_of(end, carried(tower, way, worth)))
                        self.told((number, number), bounds_at, tower, way, worth)
                    else:
                        self.refused(BadWay, bounds_at, tower, way, worth)
                        self.refused(BadWay, bounds_at, tower, way, None)

    def test_by_hand(self):
        for tower, way, worth, wanted in (
                (LINE, (0, 1, 2, 3), 5, ((5, 1), (5, 1))), (LINE, (2, 3), ((0, 1), (1, 1)), ((141, 100), (71, 50))),
                (LINE, (3,), ((1, 2), (2, 3)), ((1, 2), (2, 3))), (ROUNDS, (0, 2), 1445, ((1450, 1), (1450, 1))),
                (ROUNDS, (1, 3), (1, 8), ((13, 100), (13, 100))), (ROUNDS, (4,), (-5, -1), ((-1, 2), (-1, 2))),
                (ROUNDS, (2, 3, 4, 5), (145, 0), ((200, 1), (200, 1)))):
            self.told(wanted, bounds_at, tower, way, worth)

    def test_too_great(self):
        self.refused(TooGreat, bounds_at, LINE, (0, 1, 2, 3), BOUND + 1)
        self.refused(TooGreat, bounds_at, ROUNDS, (4, 5), (9, 400))
        self.refused(TooGreat, bounds_at, ROUNDS, (2, 3), (999, 400))
        self.refused(TooGreat, bounds_at, ROUNDS, (0, 1, 2), BOUND + 1)
        # A worth about some figures is its own value, however great.
        self.told(((9 * 10 ** 400, 1),) * 2, bounds_at, ROUNDS, (4,), (9, 400))
        self.told(((1, 10 ** 400),) * 2, bounds_at, ROUNDS, (3,), (1, -400))

    def test_refusals(self):
        self.refuses_towers(bounds_at, ((0,), (1, 0)), (None, None))
        for way in NO_WAYS:
            self.refused(BadWay, bounds_at, ROUNDS, way, (1, 0))
            self.refused(BadWay, bounds_at, ROUNDS, way, None)
        for way in ((0, 4), (2,), (4, 5), (5,), (1, 3)):
            kind = ROUNDS[0][way[0]]
            for thing in THINGS:
                if not is_good(kind, thing):
                    self.refused(BadWorth, bounds_at, ROUNDS, way, thing)
        self.refused(BadWay, bounds_at, LINE, (0, 1), BOUND + 1)
        self.refused(BadWay, bounds_at, RESTS, (0, 1), 5)
        self.refused(BadWorth, bounds_at, LINE, (0, 1, 2, 3), (BOUND + 1, 1))


class Likeness(MixedCase):
    def tells(self, word, tower, one, other):
        """It tells the word, whichever is the one."""
        self.told(word, likeness_of, tower, one, other)
        self.told(word, likeness_of, tower, other, one)

    def test_all(self):
        for tower in TOWERS:
            numbers = some_numbers(tower, 2)
            for one, other in list(product(numbers, repeat=2))[::1 + len(numbers) ** 2 // 250]:
                self.told(LIKENESS[stand_found(tower, one, other)], likeness_of, tower, one, other)

    def test_all_of_near_ones(self):
        # The same few numbers in all kinds that have them, and some near them.
        for tower in (ROUNDS, FALLING, EIGHT, MEETING, COARSE, TURNED, CROSS):
            numbers = [(place, worth) for place, kind in enumerate(tower[0]) for worth in near_ones(kind)]
            for one, other in list(product(numbers, repeat=2))[::1 + len(numbers) ** 2 // 600]:
                self.told(LIKENESS[stand_found(tower, one, other)], likeness_of, tower, one, other)

    def test_words_but_perhaps_are_never_wrong(self):
        for tower in TOWERS:
            numbers = [number for number in some_numbers(tower, 2) if tower[0][number[0]][0] not in ("rest", "own")]
            for one, other in list(product(numbers, repeat=2))[::1 + len(numbers) ** 2 // 250]:
                word = likeness_of(tower, one, other)
                left, right = between(tower[0][one[0]], one[1]), between(tower[0][other[0]], other[1])
                if word == "no":
                    self.assertTrue(left[1] < right[0] or right[1] < left[0])
                if word == "yes":
                    self.assertEqual(left, right)

    def test_in_plain_kinds(self):
        for one, other, word in (((0, 5), (0, 5), "yes"), ((0, 5), (0, 6), "no"), ((0, 5), (1, (5, 1)), "yes"),
                                 ((0, 5), (1, (11, 2)), "no"), ((0, 5), (2, ((5, 1), (0, 1))), "yes"),
                                 ((1, (1, 2)), (2, ((1, 2), (1, 10 ** 60))), "no"),
                                 ((2, ((1, 1), (1, 1))), (2, ((1, 1), (1, 1))), "yes"),
                                 ((2, ((1, 1), (1, 1))), (2, ((1, 1), (-1, 1))), "no")):
            self.tells(word, LINE, one, other)

    def test_in_rests_and_own_kinds(self):
        for tower, one, other, word in (
                (RESTS, (1, 7), (1, 7), "yes"), (RESTS, (1, 7), (1, 8), "no"), (RESTS, (0, 7), (1, 7), "perhaps"),
                (RESTS, (0, 7), (1, 8), "no"), (RESTS, (0, 7), (0, 7), "yes"), (RESTS, (2, 1), (3, 1), "perhaps"),
                (RESTS, (2, 1), (3, 2), "no"), (RESTS, (4, 1), (5, 0), "yes"), (RESTS, (4, 1), (5, 1), "no"),
                (RESTS, (0, 9), (5, 0), "perhaps"), (OWNS, (1, 2), (3, 1), "yes"), (OWNS, (0, 5), (1, 2), "perhaps"),
                (OWNS, (0, 5), (1, 1), "no"), (OWNS, (1, 0), (2, 1), "perhaps"), (OWNS, (1, 1), (2, 1), "no"),
                (SPLIT, (4, 0), (2, 2), "yes"), (SPLIT, (0, 0), (4, 0), "perhaps")):
            self.tells(word, tower, one, other)

    def test_of_kinds_about_some_figures_where_both_keep(self):
        for one, other, word in (((1, (5, 0)), (3, (5, 0)), "yes"), ((1, (5, 0)), (3, (501, -2)), "no"),
                                 ((2, (15, 0)), (3, (15, 0)), "yes"), ((1, (5, 0)), (5, ((5, 1), (5, 1))), "yes"),
                                 ((3, (5, 0)), (5, ((5, 1), (6, 1))), "perhaps"),
                                 ((3, (5, 0)), (5, ((501, 100), (6, 1))), "no"), ((1, (5, 0)), (2, (5, 0)), "yes"),
                                 ((3, (5, 0)), (5, ((4, 1), (5, 1))), "perhaps")):
            self.tells(word, COARSE, one, other)

    def test_where_one_alone_keeps(self):
        # Whole numbers come to sure kinds by one figure, so what they are held to is rounded likewise.
        for number, bounds, word in ((14, ((14, 1), (14, 1)), "perhaps"), (14, ((10, 1), (10, 1)), "perhaps"),
                                     (14, ((149, 10), (149, 10)), "perhaps"), (14, ((15, 1), (15, 1)), "no"),
                                     (14, ((149, 10), (15, 1)), "perhaps"), (14, ((47, 5), (47, 5)), "no"),
                                     (14, ((19, 2), (19, 2)), "perhaps"), (14, ((9, 1), (9499, 1000)), "no"),
                                     (-14, ((-15, 1), (-15, 1)), "no"), (0, ((0, 1), (0, 1)), "perhaps"),
                                     (0, ((1, 10 ** 60), (1, 1)), "no")):
            self.tells(word, COARSE, (0, number), (5, bounds))

    def test_where_one_alone_keeps_by_figures_one_behind_the_other(self):
        # Shares come to the sure kind by two figures; whole numbers there by three, two and one.
        tower = ((WHOLE, A3, A2, A1, S2, ROOT), steps((0, 1), (1, 2), (2, 3), (3, 4), (5, 4)))
        for number, other, word in ((1445, (1445, 1), "perhaps"), (1445, (1444, 1), "no"), (1445, (2400, 1), "perhaps"),
                                    (1445, (2444, 1), "perhaps"), (1445, (2445, 1), "no"), (1444, (1445, 1), "no"),
                                    (1444, (1000, 1), "perhaps"), (1444, (14449, 10), "perhaps")):
            self.tells(word, tower, (0, number), (4, (other, other)))
            self.tells(word, tower, (0, number), (5, (other, (0, 1))))
        self.tells("perhaps", tower, (0, 1), (5, ((0, 1), (1, 1))))
        self.tells("no", tower, (0, 1), (5, ((1, 10), (1, 1))))

    def test_where_both_cards_are_alike_and_neither_keeps(self):
        tower = ((WHOLE, SHARE, A1, S0), steps((0, 2), (1, 2), (2, 3)))
        for number, share, word in ((14, (14, 1), "perhaps"), (14, (29, 2), "perhaps"), (14, (15, 1), "no"),
                                    (1, (1, 1), "perhaps"), (1, (11, 10), "perhaps"), (95, (1, 2), "no")):
            self.tells(word, tower, (0, number), (1, share))

    def test_where_neither_keeps(self):
        tower = ((WHOLE, SHARE, A1, A2, S0), steps((0, 2), (1, 3), (2, 4), (3, 4)))
        for number, share in ((5, (5, 1)), (5, (500, 1)), (-5, (10 ** 60, 1)), (0, (0, 1))):
            self.tells("perhaps", tower, (0, number), (1, share))
        self.tells("no", tower, (0, 5), (2, (6, 0)))

    def test_of_sure_bounds(self):
        one, two, three = (1, 1), (2, 1), (3, 1)
        for left, right, word in (((one, one), (one, one), "yes"), ((one, two), (one, two), "perhaps"),
                                  ((one, two), (two, three), "perhaps"), ((one, one), (two, three), "no"),
                                  ((one, three), (two, two), "perhaps"), ((two, two), (one, one), "no")):
            self.tells(word, ((S0, S6), steps((0, 1))), (0, left), (1, right))
            self.tells(word, ((S0, S6), steps((0, 1))), (0, left), (0, right))
            self.tells(word, ((S0, S6, S2), steps((0, 2), (1, 2))), (0, left), (1, right))

    def test_of_roots_and_bounds(self):
        root = (2, ((0, 1), (1, 1)))
        for bounds, word in ((((7, 5), (3, 2)), "perhaps"), (((71, 50), (2, 1)), "perhaps"),
                             (((711, 500), (2, 1)), "no"),
                             (((1, 1), (141, 100)), "perhaps"), (((1, 1), (1409, 1000)), "no"),
                             (((141, 100), (71, 50)), "perhaps")):
            self.tells(word, LINE, root, (3, bounds))
        self.tells("yes", LINE, (2, ((1, 2), (0, 1))), (3, ((1, 2), (1, 2))))

    def test_without_a_least_kind(self):
        for tower, one, other in ((APART, (0, 1), (1, (1, 1))), (FORK, (2, (1, 0)), (3, ((1, 1), (1, 1)))),
                                  (CROSS, (0, 1), (1, (1, 1))), (CROSS, (0, BOUND + 1), (1, (BOUND + 1, 1))),
                                  (TURNED, (4, 1), (3, (5, 1))), (APART, (0, 1), (3, 1))):
            self.tells("perhaps", tower, one, other)
        for tower in (APART, CROSS, TURNED):
            for number in some_numbers(tower, 4):
                word = "perhaps" if tower[0][number[0]][0] == "sure" and number[1][0] != number[1][1] else "yes"
                self.told(word, likeness_of, tower, number, number)

    def test_too_great(self):
        self.tells("no", LINE, (0, BOUND), (1, (1, 2)))
        for tower, one, other in (
                (LINE, (0, BOUND + 1), (1, (1, 2))), (LINE, (1, (1, BOUND + 1)), (2, ((1, 1), (1, 1)))),
                (ROUNDS, (4, (9, 400)), (5, ((0, 1), (0, 1)))), (ROUNDS, (2, (999, 400)), (3, (1, 0))),
                (LINE, (2, ((0, 1), (BOUND, 1))), (3, ((0, 1), (0, 1))))):
            self.refused(TooGreat, likeness_of, tower, one, other)
            self.refused(TooGreat, likeness_of, tower, other, one)
        # In a kind of their own nothing goes up.
        self.tells("no", ROUNDS, (4, (9, 400)), (4, (8, 400)))
        self.tells("yes", LINE, (0, BOUND * 10), (0, BOUND * 10))

    def test_too_great_when_it_is_rounded(self):
        tower = ((WHOLE, A1, A3), steps((0, 1), (1, 2)))
        self.refused(TooGreat, likeness_of, tower, (0, 5), (2, (951, 400)))
        self.refused(TooGreat, likeness_of, tower, (2, (951, 400)), (0, 5))
        self.tells("no", tower, (0, 5), (2, (951, 397)))

    def test_great_numbers_of_which_nothing_can_be_told(self):
        tower = ((WHOLE, SHARE, A1, A2, S0), steps((0, 2), (1, 3), (2, 4), (3, 4)))
        self.refused(TooGreat, likeness_of, tower, (0, 9 * BOUND), (1, (1, 1)))
        self.refused(TooGreat, likeness_of, tower, (0, 1), (1, (9 * BOUND, 1)))

    def test_refusals(self):
        self.refuses_towers(likeness_of, ((0, 1), (0, 1)), (None, None))
        self.refuses_numbers(likeness_of)
        self.refused(BadWorth, likeness_of, LINE, (0, BOUND + 1), (1, (2, 4)))
        self.refused(BadWorth, likeness_of, APART, (0, True), (1, (1, 1)))


def near_ones(kind):
    """List worths of a kind that are near to some few numbers."""
    numbers = [(0, 1), (1, 1), (14, 1), (15, 1), (29, 2), (145, 1), (149, 1), (1445, 1), (1495, 1), (-15, 1), (200, 1)]
    if kind[0] == "whole":
        return [above for above, below in numbers if below == 1]
    if kind[0] == "share":
        return numbers
    if kind[0] == "about":
        return [(0, 0), (1, 0), (1, 1), (2, 1), (1, 2),
                (2, 2)] + ([(14, 0), (15, 0), (-15, 0), (15, 1)] if kind[1] > 1 else [])
    if kind[0] == "root":
        return [(number, (0, 1)) for number in numbers[:4]] + [((0, 1), (10, 1)), ((1, 2), (10, 1)), ((0, 1), (1, 1))]
    return [(number, number) for number in numbers] + [((14, 1), (15, 1)), ((0, 1), (200, 1)), ((29, 2), (145, 1))]
