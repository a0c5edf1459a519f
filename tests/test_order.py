"""[54] ORDER of MIXED numbers: towerwise.order."""

from itertools import permutations, product

from tests.mixedcase import (BOUND, COARSE, MEETING, MixedCase, TOWERS, between, meeting_found, some_numbers,
                             stand_found)
from tests.test_above import CROSS, TURNED
from tests.test_likeness import near_ones
from tests.things import THINGS
from tests.towercase import (A1, A2, A3, ALONE, APART, EIGHT, FALLING, FORK, LINE, OWNS, RESTS, ROUNDS, S0, S2, SHARE,
                             SPLIT, WHOLE, steps)
from towerwise.errors import BadTower, BadWorth, NoOrder, TooGreat
from towerwise.mixed import is_mixed
from towerwise.order import in_order, order_of

BACK = {"below": "above", "above": "below", "alike": "alike", "perhaps": "perhaps"}


def order_found(tower, one, other):
    """Tell the ORDER of two numbers, NoOrder where there is none."""
    top = meeting_found(tower, one[0], other[0])
    if top is None or tower[0][top][0] in ("rest", "own"):
        return NoOrder
    return stand_found(tower, one, other)


class Order(MixedCase):
    def tells(self, word, tower, one, other):
        """It tells the word, and the other way round the contrary."""
        if word is NoOrder:
            self.refused(NoOrder, order_of, tower, one, other)
            self.refused(NoOrder, order_of, tower, other, one)
        else:
            self.told(word, order_of, tower, one, other)
            self.told(BACK[word], order_of, tower, other, one)

    def test_all(self):
        for tower in TOWERS:
            numbers = some_numbers(tower, 2)
            for one, other in list(product(numbers, repeat=2))[::1 + len(numbers) ** 2 // 150]:
                self.tells(order_found(tower, one, other), tower, one, other)

    def test_all_of_near_ones(self):
        for tower in (ROUNDS, FALLING, EIGHT, MEETING, COARSE, TURNED):
            numbers = [(place, worth) for place, kind in enumerate(tower[0]) for worth in near_ones(kind)]
            for one, other in list(product(numbers, repeat=2))[::1 + len(numbers) ** 2 // 300]:
                self.tells(order_found(tower, one, other), tower, one, other)

    def test_words_but_perhaps_are_never_wrong(self):
        for tower in TOWERS:
            numbers = [number for number in some_numbers(tower, 2) if tower[0][number[0]][0] not in ("rest", "own")]
            for one, other in list(product(numbers, repeat=2))[::1 + len(numbers) ** 2 // 150]:
                if order_found(tower, one, other) is not NoOrder:
                    word = order_of(tower, one, other)
                    left, right = between(tower[0][one[0]], one[1]), between(tower[0][other[0]], other[1])
                    self.assertTrue(word != "below" or left[1] < right[0])
                    self.assertTrue(word != "above" or right[1] < left[0])
                    self.assertTrue(word != "alike" or left == right)

    def test_each_word_by_hand(self):
        root = (2, ((0, 1), (1, 1)))
        for tower, one, other, word in (
                (LINE, (0, 1), (0, 2), "below"), (LINE, (0, -1), (0, -2), "above"), (LINE, (0, 7), (0, 7), "alike"),
                (LINE, (0, 1), (1, (1, 2)), "above"), (LINE, (1, (2, 1)), (0, 2), "alike"),
                (LINE, root, (1, (141, 100)), "above"), (LINE, root, (1, (71, 50)), "below"),
                (LINE, root, (2, ((1, 1), (0, 1))), "above"), (LINE, root, root, "alike"),
                (LINE, root, (3, ((141, 100), (71, 50))), "perhaps"), (LINE, root, (3, ((143, 100), (2, 1))), "below"),
                (LINE, root, (3, ((0, 1), (7, 5))), "above"), (LINE, (0, 1), (3, ((1, 1), (1, 1))), "alike"),
                (ROUNDS, (3, (15, 0)), (3, (15, 0)), "alike"), (ROUNDS, (3, (15, 0)), (4, (2, 1)), "perhaps"),
                (ROUNDS, (3, (15, 0)), (4, (1, 1)), "above"),
                (ROUNDS, (3, (15, 0)), (4, (3, 1)), "below"), (ROUNDS, (3, (9, 0)), (4, (8, 0)), "above"),
                (ROUNDS, (5, ((1, 1), (2, 1))), (5, ((1, 1), (2, 1))), "perhaps"),
                (COARSE, (0, 14), (5, ((15, 1), (15, 1))), "below"),
                (COARSE, (0, 14), (5, ((149, 10), (149, 10))), "perhaps"),
                (COARSE, (0, 26), (5, ((24, 1), (24, 1))), "above"), (COARSE, (1, (5, 0)), (3, (5, 0)), "alike")):
            self.tells(word, tower, one, other)

    def test_no_order(self):
        for tower, one, other in (
                (RESTS, (1, 7), (1, 8)), (RESTS, (1, 7), (1, 7)), (RESTS, (0, 7), (1, 7)), (OWNS, (0, 1), (0, 1)),
                (OWNS, (1, 1), (2, 1)), (SPLIT, (0, 1), (4, 2)), (ALONE, (0, 0), (0, 5)), (APART, (0, 1), (1, (1, 1))),
                (APART, (3, 1), (3, 1)), (APART, (6, 0), (4, (1, 0))), (CROSS, (0, 1), (1, (1, 1))),
                (TURNED, (4, 1), (3, (1, 1))), (FORK, (2, (1, 0)), (3, ((0, 1), (0, 1)))), (FORK, (0, 1), (4, 1))):
            self.tells(NoOrder, tower, one, other)

    def test_too_great(self):
        for tower, one, other in (
                (LINE, (0, BOUND + 1), (1, (1, 2))), (LINE, (1, (1, BOUND + 1)), (2, ((1, 1), (1, 1)))),
                (ROUNDS, (4, (9, 400)), (5, ((0, 1), (0, 1))))):
            self.refused(TooGreat, order_of, tower, one, other)
            self.refused(TooGreat, order_of, tower, other, one)

    def test_no_order_ahead_of_too_great(self):
        self.refused(NoOrder, order_of, CROSS, (0, BOUND + 1), (1, (BOUND + 1, 1)))
        self.refused(NoOrder, order_of, APART, (1, (BOUND + 1, 1)), (2, ((BOUND + 1, 1), (1, 1))))
        self.tells("below", LINE, (0, BOUND + 1), (0, BOUND + 2))

    def test_refusals(self):
        self.refuses_towers(order_of, ((0, 1), (0, 1)), (None, None))
        self.refuses_numbers(order_of)
        self.refused(BadWorth, order_of, APART, (0, True), (1, (1, 1)))
        self.refused(BadWorth, order_of, APART, (0, 1), (1, (2, 2)))


class InOrder(MixedCase):
    def test_none_and_one(self):
        for tower in TOWERS:
            self.told([], in_order, tower, [])
            for number in some_numbers(tower, 3):
                self.told([number], in_order, tower, [number])

    def test_many(self):
        numbers = [(0, 3), (1, (1, 2)), (2, ((0, 1), (1, 1))), (2, ((0, 1), (-1, 1))), (0, -7), (1, (141, 100)),
                   (3, ((100, 1), (101, 1))), (2, ((1, 1), (1, 1)))]
        wanted = [(0, -7), (2, ((0, 1), (-1, 1))), (1, (1, 2)), (1, (141, 100)), (2, ((0, 1), (1, 1))),
                  (2, ((1, 1), (1, 1))), (0, 3), (3, ((100, 1), (101, 1)))]
        for turn in range(8):
            self.told(wanted, in_order, LINE, numbers[turn:] + numbers[:turn])
            self.told(wanted, in_order, LINE, numbers[::-1][turn:] + numbers[::-1][:turn])

    def test_all_orders_of_four(self):
        numbers = [(0, 1), (1, (3, 2)), (2, ((0, 1), (2, 1))), (3, ((3, 1), (4, 1)))]
        for some in permutations(numbers):
            self.told(numbers, in_order, LINE, list(some))

    def test_alike_ones_keep_their_places(self):
        alike = [(0, 2), (1, (2, 1)), (2, ((2, 1), (0, 1))), (3, ((2, 1), (2, 1)))]
        for some in permutations(alike):
            some = list(some)
            self.told(some, in_order, LINE, some)
            self.told([(0, 1)] + some + [(0, 3)], in_order, LINE, [(0, 3)] + some + [(0, 1)])
            self.told([(1, (1, 2))] + some, in_order, LINE, some[:2] + [(1, (1, 2))] + some[2:])
        self.told([(0, 1), (0, 1), (0, 1)], in_order, LINE, [(0, 1), (0, 1), (0, 1)])

    def test_whole_numbers(self):
        numbers = [(0, number * 7919 % 31 - 15) for number in range(24)]
        self.told(sorted(numbers), in_order, ROUNDS, numbers)
        self.told(sorted(numbers), in_order, CROSS, numbers)

    def test_no_order_by_pairs(self):
        for tower, numbers in (
                (RESTS, [(1, 1), (1, 2)]), (RESTS, [(0, 1), (0, 2), (1, 2)]), (OWNS, [(0, 0), (0, 0)]),
                (LINE, [(3, ((1, 1), (2, 1))), (3, ((1, 1), (2, 1)))]), (CROSS, [(0, 1), (1, (1, 1))]),
                (LINE, [(0, 1), (3, ((0, 1), (2, 1))), (0, 5)]), (ROUNDS, [(0, 1), (4, (1, 0))])):
            self.refused(NoOrder, in_order, tower, numbers)

    def test_the_first_pair_that_is_refused_is_told(self):
        great, fine, loose = (0, BOUND + 1), (1, (1, 2)), (3, ((0, 1), (1, 1)))
        self.refused(TooGreat, in_order, LINE, [great, fine, loose])
        self.refused(NoOrder, in_order, LINE, [loose, fine, great])
        self.refused(TooGreat, in_order, LINE, [loose, great, fine])
        self.refused(TooGreat, in_order, LINE, [fine, great, loose])
        self.refused(NoOrder, in_order, LINE, [fine, loose, great])
        # The pair of the first and the last one comes ahead of that of the second and the third one.
        low = (0, -9)
        self.refused(NoOrder, in_order, LINE, [fine, low, (0, 9), loose])
        self.refused(TooGreat, in_order, LINE, [low, fine, great, loose])
        self.refused(NoOrder, in_order, LINE, [fine, low, loose, great])
        self.refused(NoOrder, in_order, CROSS, [(1, (1, 1)), (0, BOUND + 1), (2, (1, 0))])
        self.refused(TooGreat, in_order, ROUNDS, [(5, ((0, 1), (0, 1))), (4, (9, 400)), (5, ((0, 1), (1, 1)))])

    def test_great_ones_of_one_kind(self):
        self.told([(0, BOUND), (0, BOUND + 5)], in_order, LINE, [(0, BOUND + 5), (0, BOUND)])

    def test_no_such_lists(self):
        good = (0, 1)
        for thing in THINGS:
            if type(thing) is not list or thing not in ([], [(0, 1), (0, 1)]):
                self.refused(BadWorth, in_order, LINE, thing)
            if not is_mixed(LINE, thing):
                self.refused(BadWorth, in_order, LINE, [thing])
                self.refused(BadWorth, in_order, LINE, [good, thing])
                self.refused(BadWorth, in_order, LINE, [thing, good, good])
        for thing in ((), (good,), (good, good), {good: good}, good, "", None, True, {good}, [[good]], [list(good)],
                      [good, (4, 1)], [good, (0, (1, 1))], [(True, 1)], [good, (1, 1)], [None], [[]]):
            self.refused(BadWorth, in_order, LINE, thing)

    def test_refusals(self):
        self.refuses_towers(in_order, ([],), (None,), ([(0, 1)],))
        self.refused(BadWorth, in_order, RESTS, [(1, 1), (1, 2), (1, 12)])
        self.refused(BadWorth, in_order, LINE, [(0, BOUND + 1), (1, (1, 2)), (1, (2, 4))])
        self.refused_with(BadTower, {"place": ()}, in_order, None, None)

    def test_the_list_that_was_handed_in_stays(self):
        numbers = [(0, 3), (0, 1), (0, 2)]
        ordered = in_order(LINE, numbers)
        self.assertIsNot(ordered, numbers)
        self.assertEqual(numbers, [(0, 3), (0, 1), (0, 2)])
        ordered.clear()
        self.told([(0, 1), (0, 2), (0, 3)], in_order, LINE, numbers)
        numbers[0] = (0, 0)
        self.told([(0, 0), (0, 1), (0, 2)], in_order, LINE, numbers)

    def test_each_sort_of_tower(self):
        tower = ((WHOLE, SHARE, A1, A2, A3, S0, S2), steps((0, 1), (1, 4), (2, 3), (3, 4), (4, 5), (5, 6)))
        numbers = [(2, (5, 1)), (3, (49, 0)), (4, (501, -1)), (6, ((60, 1), (70, 1))), (5, ((1, 1), (2, 1)))]
        wanted = [numbers[4], numbers[1], numbers[0], numbers[2], numbers[3]]
        self.told(wanted, in_order, tower, numbers)
        self.refused(NoOrder, in_order, tower, numbers + [(1, (1001, 20))])
        self.told([(0, 1), (1, (5, 2)), (2, (3, 0))], in_order, tower, [(2, (3, 0)), (1, (5, 2)), (0, 1)])
