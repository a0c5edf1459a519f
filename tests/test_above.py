"""[40] Kinds above others, ways, candidates and LEAST kinds: towerwise.above."""

from itertools import product

from tests.deedcase import DEEDS, NO_DEEDS
from tests.things import OWN_SIX, OWN_TWO, THINGS, whole
from tests.towercase import (A1, A2, A3, ALONE, APART, EIGHT, EIGHT_KINDS, FALLING, FORK, GOOD_TOWERS, LINE, OWN_FOUR,
                             OWN_THREE, OWNS, REST, RESTS, ROOT, ROUNDS, S0, S2, S6, SHARE, SPLIT, TowerCase, WHOLE,
                             above_found, steps, ways_found)
from towerwise.above import all_ways, candidates_of, first_way, kinds_above, least_above, least_kind
from towerwise.deeds import has_deed
from towerwise.errors import BadNumber, NoDeed, NoKind, TwoKinds

# Two kinds with two candidates over them that don't lead to each other, and a third one that both lead to.
CROSS = ((WHOLE, SHARE, A3, A2, S0), steps((0, 2), (0, 3), (1, 2), (1, 3), (2, 4), (3, 4)))
# The kinds of CROSS the other way round, so that the LEAST of some is the greatest number.
TURNED = ((S0, A2, A3, SHARE, WHOLE), steps((1, 0), (2, 0), (3, 1), (3, 2), (4, 1), (4, 2)))
TOWERS = GOOD_TOWERS + [CROSS, TURNED]
NO_NUMBERS = [-1, True, False, None, "0", (0,), [0], 10 ** 60, -10 ** 60, 8, {}]


def least_found(tower, numbers):
    """Tell the LEAST of some kinds, NoKind, or the two that are told where there is none."""
    if not numbers:
        return NoKind
    for number in numbers:
        if all(ways_found(tower, number, other) for other in numbers):
            return number
    lowest = [number for number in numbers
              if not any(other != number and ways_found(tower, other, number) for other in numbers)]
    return tuple(lowest[:2])


class LeastCase(TowerCase):
    def tells_least(self, wanted, function, *handed):
        """It tells the kind, or refuses as wanted: with NoKind, or with two numbers."""
        if wanted is NoKind:
            self.refused(NoKind, function, *handed)
        elif type(wanted) is tuple:
            self.refused_with(TwoKinds, {"one": wanted[0], "other": wanted[1]}, function, *handed)
        else:
            self.told(wanted, function, *handed)


class KindsAbove(TowerCase):
    def test_all(self):
        for tower in TOWERS:
            for number in range(len(tower[0])):
                self.told(above_found(tower, number), kinds_above, tower, number)

    def test_by_hand(self):
        for tower, number, wanted in ((LINE, 0, [0, 1, 2, 3]), (LINE, 3, [3]), (FALLING, 4, [0, 1, 2, 3, 4]),
                                      (FALLING, 2, [0, 1, 2]), (FORK, 1, [1, 2, 3]), (ALONE, 0, [0]), (APART, 3, [3]),
                                      (SPLIT, 4, [2, 3, 4]), (EIGHT, 2, [2, 3, 4, 6, 7])):
            self.told(wanted, kinds_above, tower, number)


class AllWays(TowerCase):
    def test_all(self):
        for tower in TOWERS:
            for one, other in product(range(len(tower[0])), repeat=2):
                ways = ways_found(tower, one, other)
                self.told(ways, all_ways, tower, one, other)
                self.told(ways[0] if ways else None, first_way, tower, one, other)

    def test_by_hand(self):
        for tower, one, other, wanted in (
                (LINE, 0, 3, [(0, 1, 2, 3)]), (LINE, 3, 0, []), (LINE, 2, 2, [(2,)]), (ALONE, 0, 0, [(0,)]),
                (FALLING, 5, 0, [(5, 4, 2, 1, 0), (5, 4, 3, 1, 0)]), (APART, 0, 1, []),
                (ROUNDS, 0, 3, [(0, 1, 2, 3), (0, 1, 3), (0, 2, 3)]), (SPLIT, 0, 2, [(0, 2), (0, 4, 2)]),
                (SPLIT, 0, 3, [(0, 1, 3), (0, 2, 3), (0, 4, 2, 3)]), (FORK, 2, 3, [])):
            self.told(wanted, all_ways, tower, one, other)
            self.told(wanted[0] if wanted else None, first_way, tower, one, other)

    def test_the_first_way_is_not_the_shortest_one(self):
        tower = ((WHOLE, SHARE, A1, S0), steps((0, 1), (0, 3), (1, 2), (2, 3)))
        self.told((0, 1, 2, 3), first_way, tower, 0, 3)
        self.told([(0, 1, 2, 3), (0, 3)], all_ways, tower, 0, 3)

    def test_steps_that_lead_nowhere_are_left_out(self):
        tower = ((WHOLE, REST, SHARE, S0, A1), steps((0, 1), (0, 2), (0, 4), (2, 3)))
        self.told((0, 2, 3), first_way, tower, 0, 3)
        self.told([(0, 2, 3)], all_ways, tower, 0, 3)

    def test_of_eight_kinds(self):
        ways = all_ways(EIGHT, 0, 7)
        self.assertEqual(len(ways), 36)
        self.assertEqual(ways, sorted(ways))
        self.assertEqual(ways[0], (0, 1, 2, 3, 4, 6, 7))
        self.assertEqual(ways[-1], (0, 7))
        self.told((0, 1, 2, 3, 4, 6, 7), first_way, EIGHT, 0, 7)


class Candidates(LeastCase):
    def test_all(self):
        for tower in TOWERS:
            for deed in DEEDS:
                for one, other in product(range(len(tower[0])), repeat=2):
                    both = [number for number in above_found(tower, one) if number in above_found(tower, other)]
                    having = [number for number in both if has_deed(tower[0][number], deed)]
                    self.told(having, candidates_of, tower, deed, one, other)
                    self.tells_least(least_found(tower, having), least_kind, tower, deed, one, other)
                    self.tells_least(least_found(tower, both), least_above, tower, one, other)

    def test_candidates_by_hand(self):
        for tower, deed, one, other, wanted in (
                (LINE, "plus", 0, 0, [0, 1, 2, 3]), (LINE, "over", 0, 0, [1, 2, 3]), (LINE, "less", 1, 2, [2, 3]),
                (LINE, "over", 0, 3, [3]), (RESTS, "over", 1, 1, [4, 5]), (RESTS, "times", 2, 3, [4, 5]),
                (FORK, "plus", 2, 3, []), (FORK, "over", 0, 4, []), (FORK, "less", 0, 4, [4]),
                (ALONE, "over", 0, 0, []), (ALONE, "less", 0, 0, [0]), (CROSS, "plus", 0, 1, [2, 3, 4]),
                (OWNS, "over", 0, 0, [2, 3]), (OWNS, "times", 1, 2, [3])):
            self.told(wanted, candidates_of, tower, deed, one, other)

    def test_least_kinds_by_hand(self):
        for tower, deed, one, other, wanted in (
                (LINE, "plus", 0, 0, 0), (LINE, "over", 0, 0, 1), (LINE, "plus", 2, 0, 2), (LINE, "over", 3, 1, 3),
                (RESTS, "over", 1, 1, 4), (RESTS, "plus", 2, 3, 4), (FORK, "plus", 0, 1, 1), (FORK, "plus", 4, 4, 4),
                (FORK, "over", 4, 4, NoKind), (FORK, "plus", 2, 4, NoKind), (CROSS, "plus", 0, 1, (2, 3)),
                (CROSS, "plus", 0, 2, 2), (TURNED, "times", 3, 4, (1, 2)), (TURNED, "times", 4, 4, 4),
                (FALLING, "plus", 2, 3, 1), (FALLING, "plus", 5, 3, 3), (OWNS, "over", 0, 0, 2),
                (OWNS, "plus", 0, 2, 2), (APART, "plus", 0, 1, NoKind), (SPLIT, "less", 0, 1, 1)):
            self.tells_least(wanted, least_kind, tower, deed, one, other)

    def test_least_above_by_hand(self):
        for tower, one, other, wanted in (
                (LINE, 0, 0, 0), (LINE, 0, 3, 3), (LINE, 3, 0, 3), (CROSS, 0, 1, (2, 3)), (CROSS, 2, 3, 4),
                (TURNED, 4, 3, (1, 2)), (TURNED, 1, 2, 0), (FALLING, 2, 3, 1), (FALLING, 5, 5, 5),
                (APART, 0, 1, NoKind),
                (FORK, 2, 3, NoKind), (FORK, 4, 0, 4), (SPLIT, 1, 4, 3), (RESTS, 2, 3, 4)):
            self.tells_least(wanted, least_above, tower, one, other)

    def test_without_the_least_one_by_deed_alone(self):
        # Whole itself is below all; it has no over, and of those that have it none is the LEAST.
        tower = ((S2, WHOLE, A1, ROOT, A3), steps((1, 0), (1, 2), (1, 3), (1, 4)))
        self.told(1, least_above, tower, 1, 1)
        self.told(1, least_kind, tower, "less", 1, 1)
        self.told([0, 2, 3, 4], candidates_of, tower, "over", 1, 1)
        self.tells_least((0, 2), least_kind, tower, "over", 1, 1)

    def test_two_kinds_are_those_to_which_no_other_one_leads(self):
        # 2 and 4 are led to by 3, so told are 1 and 3.
        tower = ((WHOLE, A1, S0, SHARE, ROOT, A2), steps((0, 1), (0, 3), (3, 2), (3, 4), (3, 5)))
        self.told([1, 2, 3, 4, 5], candidates_of, tower, "over", 0, 0)
        self.tells_least((1, 3), least_kind, tower, "over", 0, 0)
        three = ((WHOLE, A1, A2, A3, S0), steps((0, 1), (0, 2), (0, 3), (1, 4), (2, 4), (3, 4)))
        self.tells_least((1, 2), least_kind, three, "over", 0, 0)

    def test_the_least_one_is_the_greatest_number(self):
        kinds = EIGHT_KINDS[::-1]
        tower = (kinds, tuple(sorted((7 - one, 7 - other, None) for one, other, _ in EIGHT[1])))
        self.told(7, least_kind, tower, "plus", 7, 7)
        self.told(6, least_kind, tower, "over", 7, 7)
        self.told(6, least_above, tower, 6, 7)


class Refusals(TowerCase):
    def test_towers(self):
        self.refuses_towers(kinds_above, (0,), (None,))
        for function in (all_ways, first_way, least_above):
            self.refuses_towers(function, (0, 0), (None, None))
        for function in (candidates_of, least_kind):
            self.refuses_towers(function, ("plus", 0, 0), (None, None, None))

    def test_numbers(self):
        for tower in TOWERS:
            count = len(tower[0])
            for number in NO_NUMBERS + [count]:
                self.refused(BadNumber, kinds_above, tower, number)
                for function, ahead in ((all_ways, ()), (first_way, ()), (least_above, ()), (candidates_of, ("plus",)),
                                        (least_kind, ("over",))):
                    self.refused(BadNumber, function, tower, *ahead, number, 0)
                    self.refused(BadNumber, function, tower, *ahead, 0, number)
                    self.refused(BadNumber, function, tower, *ahead, number, number)

    def test_numbers_of_every_kind(self):
        def is_number(thing):
            return whole(thing) and 0 <= thing < 4
        self.refuses_others(BadNumber, kinds_above, is_number, ahead=(LINE,))
        for function, ahead in ((all_ways, (LINE,)), (first_way, (LINE,)), (least_above, (LINE,)),
                                (candidates_of, (LINE, "less")), (least_kind, (LINE, "less"))):
            self.refuses_others(BadNumber, function, is_number, ahead=ahead, behind=(1,))
            self.refuses_others(BadNumber, function, is_number, ahead=ahead + (1,))

    def test_deeds(self):
        for function in (candidates_of, least_kind):
            for thing in THINGS + list(NO_DEEDS):
                if type(thing) is not str or thing not in DEEDS:
                    self.refused(NoDeed, function, LINE, thing, 0, 0)
                    self.refused(NoDeed, function, LINE, thing, None, None)
                    self.refused(NoDeed, function, APART, thing, 0, 9)

    def test_no_deed_that_whole_hasnt(self):
        # over is one of the four, so there is only no kind.
        self.refused(NoKind, least_kind, ((WHOLE,), ()), "over", 0, 0)
        self.told([], candidates_of, ((WHOLE,), ()), "over", 0, 0)

    def test_refusals_in_order(self):
        self.refused(BadNumber, least_kind, APART, "plus", 0, 7)
        self.refused(BadNumber, least_above, APART, True, 1)
        self.refused(BadNumber, least_above, CROSS, 0, -1)
        self.refused(NoKind, least_above, APART, 0, 1)

    def test_told_lists_changed_and_asked_again(self):
        for function, handed in ((kinds_above, (EIGHT, 0)), (all_ways, (EIGHT, 0, 7)),
                                 (candidates_of, (EIGHT, "plus", 0, 1))):
            wanted = function(*handed)
            function(*handed).clear()
            self.told(wanted, function, *handed)


class SomeMore(LeastCase):
    def test_steps_at_random_places(self):
        # All towers of five kinds with some of ten steps: what leads where is found by going along.
        kinds = (WHOLE, SHARE, A1, A2, S0)
        pairs = [(one, other) for one in range(5) for other in range(one + 1, 5)]
        for number in range(0, 2 ** 10, 3):
            tower = (kinds, steps(*[pair for place, pair in enumerate(pairs) if number >> place & 1]))
            for one, other in ((0, 1), (0, 0), (1, 2)):
                both = [each for each in above_found(tower, one) if each in above_found(tower, other)]
                self.assertEqual(both, [each for each in kinds_above(tower, one) if each in kinds_above(tower, other)])
                self.tells_least(least_found(tower, both), least_above, tower, one, other)
                having = [each for each in both if kinds[each] != WHOLE]
                self.tells_least(least_found(tower, having), least_kind, tower, "over", one, other)


class Sorts(TowerCase):
    def test_which_kinds_are_above_whatever_they_are(self):
        tower = ((OWN_TWO, OWN_THREE, OWN_FOUR, OWN_SIX, REST, S2, S6, A3),
                 steps((0, 1, (0, 1)), (1, 2, (0, 1, 2)), (2, 3, (0, 1, 2, 3)), (4, 0, (0, 1) * 3), (5, 6), (7, 5)))
        self.told([0, 1, 2, 3, 4], kinds_above, tower, 4)
        self.told([5, 6, 7], kinds_above, tower, 7)
        self.told((4, 0, 1, 2, 3), first_way, tower, 4, 3)
        self.refused(NoKind, least_above, tower, 4, 7)
        self.told(0, least_above, tower, 0, 4)
