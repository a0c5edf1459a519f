"""[55] GOING BACK and TWINS: towerwise.twins."""

from tests.mixedcase import (BOUND, COARSE, MixedCase, TOWERS, does_keep, first_ways, guesses, is_great, meeting_found,
                             some_numbers, stand_found, twins_found)
from tests.test_above import CROSS, TURNED
from tests.test_cards import ways_of
from tests.test_likeness import NO_WAYS, near_ones
from tests.test_worths import is_good
from tests.things import OWN_SIX, OWN_TWO, THINGS
from tests.towercase import (A1, A2, A3, ALONE, APART, EIGHT, FALLING, LINE, OWN_THREE, OWNS, RESTS, ROOT, ROUNDS, S0,
                             S2, S6, SHARE, WHOLE, carried, some_worths, steps, ways_found)
from towerwise.errors import BadWay, BadWorth, TooGreat
from towerwise.going import is_way
from towerwise.likeness import likeness_of
from towerwise.twins import going_back, plainest_twin, twins_of

# Everything that keeps: from each kind about some figures up to more of them, and from all to sure kinds.
KEEPING = ((WHOLE, SHARE, ROOT, A1, A2, A3, S0, S2),
           steps((0, 1), (0, 2), (0, 6), (1, 2), (1, 6), (2, 6), (2, 7), (3, 4), (3, 5), (3, 6), (4, 5), (5, 6), (5, 7),
                 (6, 7)))
# Three rests and own ones that tell the same by other names.
NAMES = ((("rest", 3), OWN_THREE, OWN_SIX, OWN_TWO),
         steps((0, 1, (2, 0, 1)), (1, 2, (5, 3, 1)), (3, 2, (1, 0))))
ALL = TOWERS + [KEEPING, NAMES]


def plainest_found(tower, number):
    """Tell the twin from whose kind ways lead to those of all other twins, the number itself without one."""
    twins = twins_found(tower, number)
    for twin in twins:
        if all(ways_found(tower, twin[0], other[0]) for other in twins):
            return twin
    return number


def refuses_twins(tower, number):
    """Tell whether the number goes up TOO GREAT to some kind where it counts."""
    for other in range(len(tower[0])):
        top = meeting_found(tower, number[0], other)
        if other != number[0] and top is not None:
            ways = first_ways(tower, top, number, (other,))
            if all(does_keep(tower, way) for way in ways) and is_great(tower, number, top):
                return True
    return False


class GoingBack(MixedCase):
    def test_what_went_up_comes_back(self):
        for tower in ALL:
            for way in ways_of(tower):
                if does_keep(tower, way):
                    for worth in some_worths(tower[0][way[0]]):
                        came = carried(tower, way, worth)
                        root = tower[0][way[0]][0] == "root" and len(way) > 1 and worth[1] != (0, 1)
                        self.told(None if root else worth, going_back, tower, way, came)

    def test_worths_to_which_none_goes_up(self):
        for tower in ALL:
            for way in ways_of(tower):
                if does_keep(tower, way):
                    start, end = tower[0][way[0]], tower[0][way[-1]]
                    worths = some_worths(end) + (near_ones(end) if end[0] not in ("rest", "own") else [])
                    for worth in worths:
                        self.told(self.back_found(tower, way, start, end, worth), going_back, tower, way, worth)

    def back_found(self, tower, way, start, end, worth):
        """Tell the worth that goes up to another one: of all that might be the same number the one that does."""
        if len(way) == 1 or start[0] == end[0] == "sure":
            return worth
        if end[0] == "root" and worth[1] != (0, 1) or end[0] == "sure" and worth[0] != worth[1]:
            return None
        found = [one for one in guesses(start, end, worth) if carried(tower, way, one) == worth]
        return found[0] if found else None

    def test_by_hand(self):
        for tower, way, worth, wanted in (
                (LINE, (0,), 5, 5), (LINE, (0, 1), (5, 1), 5), (LINE, (0, 1), (5, 2), None),
                (LINE, (0, 1), (-3, 1), -3),
                (LINE, (0, 1, 2), ((7, 1), (0, 1)), 7), (LINE, (0, 1, 2), ((7, 1), (1, 1)), None),
                (LINE, (0, 1, 2), ((7, 2), (0, 1)), None), (LINE, (1, 2), ((7, 2), (0, 1)), (7, 2)),
                (LINE, (1, 2), ((7, 2), (-1, 2)), None), (LINE, (0, 1, 2, 3), ((4, 1), (4, 1)), 4),
                (LINE, (0, 1, 2, 3), ((4, 1), (5, 1)), None), (LINE, (0, 1, 2, 3), ((1, 2), (1, 2)), None),
                (LINE, (1, 2, 3), ((1, 2), (1, 2)), (1, 2)), (LINE, (2, 3), ((1, 2), (1, 2)), ((1, 2), (0, 1))),
                (LINE, (2,), ((1, 2), (5, 1)), ((1, 2), (5, 1))), (LINE, (3,), ((1, 2), (5, 1)), ((1, 2), (5, 1))),
                (COARSE, (1, 3), (5, 7), (5, 7)), (COARSE, (1, 3), (15, 7), None), (COARSE, (2, 3), (15, 7), (15, 7)),
                (COARSE, (2, 3), (-151, 0), None), (COARSE, (1, 3, 5), ((500, 1), (500, 1)), (5, 2)),
                (COARSE, (1, 3, 5), ((510, 1), (510, 1)), None), (COARSE, (1, 3, 5), ((1, 3), (1, 3)), None),
                (COARSE, (2, 3, 5), ((1, 4), (1, 4)), (25, -2)), (COARSE, (2, 3, 5), ((1, 4), (1, 2)), None),
                (RESTS, (4, 5), 1, 0), (OWNS, (1, 3), 3, 1), (OWNS, (1, 3), 2, None), (OWNS, (0,), 5, 5),
                (NAMES, (0, 1, 2), 5, 1), (NAMES, (0, 1, 2), 0, None), (NAMES, (3, 2), 0, 1), (NAMES, (3, 2), 2, None)):
            self.told(wanted, going_back, tower, way, worth)

    def test_of_unlike_bounds_no_root(self):
        # Two of its worths go up to such bounds: as much of the root, and as much less.
        bounds = ((141, 100), (71, 50))
        self.assertEqual(carried(LINE, (2, 3), ((0, 1), (1, 1))), bounds)
        self.assertEqual(carried(LINE, (2, 3), ((283, 100), (-1, 1))), bounds)
        self.told(None, going_back, LINE, (2, 3), bounds)

    def test_of_sure_kinds_bounds_stay(self):
        tower = ((S0, S2, S6), steps((0, 1), (1, 2)))
        for worth in some_worths(S0):
            self.told(worth, going_back, tower, (0, 1, 2), worth)

    def test_numbers_too_great_for_the_first_kind(self):
        tower = ((A1, S0, WHOLE), steps((0, 1), (2, 1)))
        self.told((1, 300), going_back, tower, (0, 1), ((BOUND, 1),) * 2)
        self.told((1, -300), going_back, tower, (0, 1), ((1, BOUND),) * 2)
        self.told(None, going_back, tower, (0, 1), ((BOUND - 1, 1),) * 2)
        self.told(BOUND - 1, going_back, tower, (2, 1), ((BOUND - 1, 1),) * 2)
        self.told(-BOUND, going_back, tower, (2, 1), ((-BOUND, 1),) * 2)

    def test_ways_that_do_not_keep(self):
        for tower in ALL:
            for way in ways_of(tower):
                if not does_keep(tower, way):
                    for worth in some_worths(tower[0][way[-1]])[:3] + [None]:
                        self.refused(BadWay, going_back, tower, way, worth)

    def test_refusals(self):
        self.refuses_towers(going_back, ((0,), 0), (None, None))
        for tower in (LINE, RESTS, EIGHT):
            for way in NO_WAYS:
                if not is_way(tower, way):
                    self.refused(BadWay, going_back, tower, way, 0)
        for thing in THINGS:
            if not is_way(LINE, thing):
                self.refused(BadWay, going_back, LINE, thing, None)
        for tower, way in ((LINE, (0, 1)), (LINE, (1, 2, 3)), (LINE, (2, 3)), (COARSE, (1, 3)), (RESTS, (4, 5)),
                           (OWNS, (0,))):
            for thing in THINGS:
                if not is_good(tower[0][way[-1]], thing):
                    self.refused(BadWorth, going_back, tower, way, thing)
        self.refused(BadWorth, going_back, LINE, (0, 1), 5)
        self.refused(BadWay, going_back, ROUNDS, (0, 2), 5)


class Twins(MixedCase):
    def test_all(self):
        for tower in ALL:
            numbers = some_numbers(tower, 1 if len(tower[0]) < 5 else 2)
            for number in numbers[::1 + len(numbers) // 30]:
                self.tells(tower, number)

    def tells(self, tower, number):
        """It tells the twins and the plainest one, or refuses where the number goes up TOO GREAT."""
        if refuses_twins(tower, number):
            self.refused(TooGreat, twins_of, tower, number)
            self.refused(TooGreat, plainest_twin, tower, number)
        else:
            self.told(twins_found(tower, number), twins_of, tower, number)
            self.told(plainest_found(tower, number), plainest_twin, tower, number)

    def test_all_of_near_ones(self):
        for tower in (KEEPING, ROUNDS, COARSE, TURNED, CROSS, FALLING):
            for place, kind in enumerate(tower[0]):
                for worth in near_ones(kind):
                    self.tells(tower, (place, worth))

    def test_great_ones(self):
        for tower in ALL:
            for number in self.great_ones(tower):
                self.tells(tower, number)

    def test_likeness_to_all_other_twins_kinds_is_yes(self):
        for tower in ALL:
            for number in some_numbers(tower, 6):
                for twin in twins_of(tower, number):
                    if twin != number:
                        self.assertEqual(likeness_of(tower, number, twin), "yes")

    def test_by_hand(self):
        five = (5, 1)
        for tower, number, twins, plainest in (
                (LINE, (0, 5), [(0, 5), (1, five), (2, (five, (0, 1))), (3, (five, five))], (0, 5)),
                (LINE, (3, (five, five)), [(0, 5), (1, five), (2, (five, (0, 1))), (3, (five, five))], (0, 5)),
                (LINE, (1, (1, 2)), [(1, (1, 2)), (2, ((1, 2), (0, 1))), (3, ((1, 2), (1, 2)))], (1, (1, 2))),
                (LINE, (2, ((0, 1), (1, 1))), [(2, ((0, 1), (1, 1)))], (2, ((0, 1), (1, 1)))),
                (LINE, (3, (five, (6, 1))), [(3, (five, (6, 1)))], (3, (five, (6, 1)))),
                (ROUNDS, (4, (5, 0)), [(4, (5, 0)), (5, (five, five))], (4, (5, 0))),
                (ROUNDS, (0, 5), [(0, 5), (1, five)], (0, 5)), (ROUNDS, (1, (1, 2)), [(1, (1, 2))], (1, (1, 2))),
                (RESTS, (5, 1), [(4, 0), (5, 1)], (4, 0)), (RESTS, (2, 5), [(2, 5)], (2, 5)),
                (NAMES, (2, 1), [(0, 0), (1, 2), (2, 1), (3, 0)], (2, 1)), (NAMES, (2, 0), [(2, 0), (3, 1)], (3, 1)),
                (NAMES, (0, 2), [(0, 2), (1, 1), (2, 3)], (0, 2)), (APART, (0, 1), [(0, 1)], (0, 1)),
                (TURNED, (4, 5), [(4, 5)], (4, 5)),
                (TURNED, (0, (five, five)), [(0, (five, five)), (1, (5, 0)), (2, (5, 0))],
                                                     (0, (five, five)))):
            self.told(twins, twins_of, tower, number)
            self.told(plainest, plainest_twin, tower, number)

    def test_without_a_plainest_one(self):
        # Rests and two figures have ways to the sure kind, none to each other: the number itself is told.
        tower = ((A2, ROOT, S0), steps((0, 2), (1, 2)))
        for number in ((0, (5, 0)), (1, ((5, 1), (0, 1))), (2, ((5, 1), (5, 1)))):
            self.told([(0, (5, 0)), (1, ((5, 1), (0, 1))), (2, ((5, 1), (5, 1)))], twins_of, tower, number)
            self.told(number, plainest_twin, tower, number)
        self.told((0, (5, 0)), plainest_twin, ((A2, S0), steps((0, 1))), (1, ((5, 1), (5, 1))))

    def test_the_plainest_one_is_not_the_first(self):
        tower = ((S6, ROOT, SHARE, WHOLE), steps((1, 0), (2, 1), (3, 2)))
        two = (2, 1)
        twins = [(0, (two, two)), (1, (two, (0, 1))), (2, two), (3, 2)]
        for number in twins:
            self.told(twins, twins_of, tower, number)
            self.told((3, 2), plainest_twin, tower, number)
        self.told((2, (1, 2)), plainest_twin, tower, (0, ((1, 2), (1, 2))))

    def test_by_first_ways_alone(self):
        # The first way from whole to sure goes by one figure and so doesn't keep, though another one does.
        tower = ((WHOLE, A1, S0), steps((0, 1), (0, 2), (1, 2)))
        self.told([(0, 5)], twins_of, tower, (0, 5))
        self.told([(1, (5, 0)), (2, ((5, 1), (5, 1)))], twins_of, tower, (2, ((5, 1), (5, 1))))
        turned = ((WHOLE, S0, A1), steps((0, 1), (0, 2), (2, 1)))
        self.told([(0, 5), (1, ((5, 1), (5, 1)))], twins_of, turned, (0, 5))
        self.told([(0, 5), (1, ((5, 1), (5, 1))), (2, (5, 0))], twins_of, turned, (1, ((5, 1), (5, 1))))

    def test_too_great(self):
        for tower, number in ((LINE, (0, BOUND + 1)), (LINE, (1, (1, BOUND + 1))), (ROUNDS, (4, (9, 400))),
                              (LINE, (2, ((0, 1), (BOUND, 1)))), (KEEPING, (3, (1, 301)))):
            self.refused(TooGreat, twins_of, tower, number)
            self.refused(TooGreat, plainest_twin, tower, number)

    def test_too_great_where_a_way_does_not_keep_counts_for_nothing(self):
        tower = ((WHOLE, A1, A3), steps((0, 1), (1, 2)))
        self.told([(0, 10 ** 403)], twins_of, tower, (0, 10 ** 403))
        self.told((0, 10 ** 403), plainest_twin, tower, (0, 10 ** 403))
        # Up to the sure kind the number keeps and goes TOO GREAT, but whole numbers come there by one figure.
        tower = ((WHOLE, A1, S0), steps((0, 1), (1, 2)))
        self.told([(0, 10 ** 302)], twins_of, tower, (0, 10 ** 302))
        self.refused(TooGreat, twins_of, tower, (1, (1, 302)))
        tower = ((A1, A2, WHOLE, S0), steps((0, 1), (1, 3), (2, 1)))
        self.refused(TooGreat, twins_of, tower, (0, (1, 302)))
        tower = ((WHOLE, SHARE, A1, S0), steps((0, 2), (1, 2), (2, 3)))
        self.told([(0, 10 ** 302)], twins_of, tower, (0, 10 ** 302))

    def test_without_a_least_kind_nothing_goes_up(self):
        self.told([(0, BOUND * 9)], twins_of, APART, (0, BOUND * 9))
        self.told([(1, (BOUND * 9, 1))], twins_of, CROSS, (1, (BOUND * 9, 1)))

    def test_told_lists_changed_and_asked_again(self):
        wanted = twins_of(LINE, (0, 5))
        twins_of(LINE, (0, 5)).clear()
        self.told(wanted, twins_of, LINE, (0, 5))

    def test_refusals(self):
        for function in (twins_of, plainest_twin):
            self.refuses_towers(function, ((0, 1),), (None,))
            self.refuses_numbers(function, last=False)
            self.refused(BadWorth, function, LINE, (1, (2, 4)))
            self.refused(BadWorth, function, LINE, (True, (BOUND + 1, 1)))

    def test_alone(self):
        for worth in range(6):
            self.told([(0, worth)], twins_of, ALONE, (0, worth))
            self.told((0, worth), plainest_twin, ALONE, (0, worth))
        self.told(None, lambda: stand_found(APART, (0, 1), (1, (1, 1))))


