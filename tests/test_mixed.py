"""[50] MIXED numbers and their deeds, [51] all ANSWERS: towerwise.mixed."""

from itertools import product

from tests.deedcase import DEEDS, NO_DEEDS
from tests.mixedcase import BOUND, COARSE, MEETING, MixedCase, TOWERS, some_numbers
from tests.test_above import CROSS, TURNED, least_found
from tests.test_worths import is_good
from tests.things import THINGS, whole
from tests.towercase import (A1, A2, A3, ALONE, APART, EIGHT, FORK, LINE, OWN_FOUR, OWNS, RESTS, ROUNDS, S0, SHARE,
                             SPLIT, WHOLE, above_found, steps, ways_found)
from towerwise.deeds import deed_done, has_deed
from towerwise.errors import BadWorth, ByNought, NoDeed, NoKind, TooGreat, TwoKinds
from towerwise.going import gone_up
from towerwise.mixed import all_answers, is_mixed, mixed_deed, need_mixed


def least_kind_found(tower, deed, one, other):
    """Tell the LEAST of the candidates, NoKind, or two numbers."""
    both = [number for number in above_found(tower, one) if number in above_found(tower, other)]
    return least_found(tower, [number for number in both if has_deed(tower[0][number], deed)])


def came(tower, way, number):
    """Tell what a number comes to up a way, None for TOO GREAT."""
    try:
        return gone_up(tower, way, number[1])
    except TooGreat:
        return None


def answer_found(kind, deed, left, right):
    """Tell the ANSWER of two worths, None for those that are TOO GREAT."""
    if left is None or right is None:
        return ("great",)
    try:
        return ("worth", deed_done(kind, deed, left, right))
    except ByNought:
        return ("nought",)
    except TooGreat:
        return ("great",)


def answers_found(tower, deed, one, other, top):
    """List all ANSWERS with the first pairs of ways to them, pair by pair."""
    lefts = [(way, came(tower, way, one)) for way in ways_found(tower, one[0], top)]
    rights = [(way, came(tower, way, other)) for way in ways_found(tower, other[0], top)]
    found = {}
    for (way, left), (second, right) in product(lefts, rights):
        if (left, right) not in found:
            found[(left, right)] = (answer_found(tower[0][top], deed, left, right), way, second)
    rows = list(found.values())
    return [row for place, row in enumerate(rows) if row[0] not in [ahead[0] for ahead in rows[:place]]]


class Mixed(MixedCase):
    def test_good_ones(self):
        for tower in TOWERS:
            for number in some_numbers(tower):
                self.told(True, is_mixed, tower, number)
                self.told(None, need_mixed, tower, number)

    def test_worths_of_every_kind(self):
        for tower in (LINE, RESTS, OWNS, MEETING):
            for number, kind in enumerate(tower[0]):
                for thing in THINGS:
                    self.told(is_good(kind, thing), is_mixed, tower, (number, thing))
                    if not is_good(kind, thing):
                        self.refused(BadWorth, need_mixed, tower, (number, thing))

    def test_numbers_of_every_kind(self):
        for thing in THINGS:
            good = whole(thing) and 0 <= thing < 8
            self.told(good and MEETING[0][thing] == WHOLE, is_mixed, MEETING, (thing, 5))
            self.told(False, is_mixed, LINE, (thing, (2, 4)))

    def test_what_is_none(self):
        self.refuses_numbers(need_mixed, last=False)
        for thing in THINGS:
            wanted = type(thing) is tuple and len(thing) == 2 and whole(thing[0]) and thing in ((0, 0), (0, 1), (0, 5))
            self.told(wanted and whole(thing[1]), is_mixed, LINE, thing)

    def test_towers(self):
        self.refuses_towers(is_mixed, ((0, 1),), (None,))
        self.refuses_towers(need_mixed, ((0, 1),), (None,))


class Deeds(MixedCase):
    def test_all(self):
        for tower in TOWERS:
            numbers = some_numbers(tower, 3 if len(tower[0]) < 5 else 5)
            for deed in DEEDS:
                for one, other in list(product(numbers, repeat=2))[::1 + len(numbers) ** 2 // 80]:
                    self.tells_deed(tower, deed, one, other)

    def tells_deed(self, tower, deed, one, other):
        """It tells what is done in the LEAST candidate, or refuses as is due."""
        top = least_kind_found(tower, deed, one[0], other[0])
        if top is NoKind:
            self.refused(NoKind, mixed_deed, tower, deed, one, other)
        elif type(top) is tuple:
            self.refused_with(TwoKinds, {"one": top[0], "other": top[1]}, mixed_deed, tower, deed, one, other)
        else:
            ways = ways_found(tower, one[0], top)[0], ways_found(tower, other[0], top)[0]
            answer = answer_found(tower[0][top], deed, came(tower, ways[0], one), came(tower, ways[1], other))
            if answer[0] == "worth":
                self.told((top, answer[1]), mixed_deed, tower, deed, one, other)
            else:
                error = {"great": TooGreat, "nought": ByNought}[answer[0]]
                self.refused(error, mixed_deed, tower, deed, one, other)

    def test_by_hand(self):
        for tower, deed, one, other, wanted in (
                (LINE, "plus", (0, 2), (0, 3), (0, 5)), (LINE, "over", (0, 2), (0, 3), (1, (2, 3))),
                (LINE, "plus", (0, 1), (2, ((1, 2), (1, 1))), (2, ((3, 2), (1, 1)))),
                (LINE, "less", (1, (1, 2)), (3, ((0, 1), (1, 1))), (3, ((-1, 2), (1, 2)))),
                (LINE, "times", (2, ((0, 1), (1, 1))), (2, ((0, 1), (1, 1))), (2, ((2, 1), (0, 1)))),
                (LINE, "plus", (2, ((0, 1), (1, 1))), (3, ((0, 1), (0, 1))), (3, ((141, 100), (71, 50)))),
                (ROUNDS, "plus", (0, 1445), (4, (1, 3)), (4, (3, 3))), (ROUNDS, "over", (0, 7), (0, 2), (1, (7, 2))),
                (RESTS, "plus", (2, 5), (3, 3), (4, 0)), (RESTS, "over", (0, 9), (0, 3), (4, 1)),
                (RESTS, "times", (0, 7), (1, 7), (1, 1)), (OWNS, "over", (0, 5), (0, 1), (2, 1)),
                (OWNS, "plus", (1, 1), (2, 1), (3, 3)),
                (TURNED, "plus", (4, 5), (0, ((0, 1), (1, 1))), (0, ((5, 1), (6, 1)))),
                (MEETING, "less", (2, (9, 0)), (0, 145), (2, (-9, 1))), (SPLIT, "plus", (4, 1), (0, 5), (4, 0))):
            self.told(wanted, mixed_deed, tower, deed, one, other)

    def test_by_the_first_way_though_it_is_not_the_shortest(self):
        tower = ((WHOLE, A1, A3, S0), steps((0, 1), (0, 2), (1, 2)))
        self.told((2, (202, 0)), mixed_deed, tower, "plus", (0, 195), (2, (2, 0)))
        self.told((2, (2, 2)), mixed_deed, tower, "plus", (0, 195), (2, (0, 0)))

    def test_no_kind_and_two_kinds(self):
        self.refused(NoKind, mixed_deed, FORK, "plus", (2, (1, 0)), (3, ((0, 1), (1, 1))))
        self.refused(NoKind, mixed_deed, APART, "times", (0, 1), (1, (1, 1)))
        self.refused(NoKind, mixed_deed, ALONE, "over", (0, 1), (0, 1))
        self.refused_with(TwoKinds, {"one": 2, "other": 3}, mixed_deed, CROSS, "plus", (0, 1), (1, (1, 2)))
        self.refused_with(TwoKinds, {"one": 1, "other": 2}, mixed_deed, TURNED, "less", (4, 1), (3, (1, 2)))
        self.refused_with(TwoKinds, {"one": 2, "other": 3}, mixed_deed, CROSS, "over", (0, BOUND + 1), (1, (0, 1)))

    def test_too_great_going_up_and_what_comes(self):
        self.refused(TooGreat, mixed_deed, LINE, "plus", (0, BOUND + 1), (1, (1, 2)))
        self.refused(TooGreat, mixed_deed, LINE, "plus", (1, (1, 2)), (0, BOUND + 1))
        self.refused(TooGreat, mixed_deed, LINE, "plus", (0, BOUND), (1, (1, 2)))
        self.refused(TooGreat, mixed_deed, LINE, "plus", (0, BOUND), (0, 1))
        self.refused(TooGreat, mixed_deed, ROUNDS, "times", (4, (1, 400)), (4, (1, 1)))
        self.refused(TooGreat, mixed_deed, ROUNDS, "plus", (4, (1, 400)), (5, ((0, 1), (0, 1))))

    def test_by_nought(self):
        self.refused(ByNought, mixed_deed, LINE, "over", (0, 1), (0, 0))
        self.refused(ByNought, mixed_deed, LINE, "over", (3, ((1, 1), (1, 1))), (0, 0))
        self.refused(ByNought, mixed_deed, RESTS, "over", (0, 1), (1, 4))
        self.refused(TooGreat, mixed_deed, LINE, "over", (0, BOUND + 1), (0, 0))
        self.refused(TooGreat, mixed_deed, LINE, "over", (0, BOUND + 1), (1, (0, 1)))

    def test_what_came_may_be_handed_in_again(self):
        number = (0, 3)
        for deed, other in (("over", (0, 7)), ("times", (2, ((0, 1), (1, 1)))), ("plus", (3, ((0, 1), (1, 3))))):
            number = mixed_deed(LINE, deed, number, other)
            self.told(True, is_mixed, LINE, number)
        self.assertEqual(number, (3, ((423, 700), (989, 1050))))


class Answers(MixedCase):
    def test_all(self):
        for tower in TOWERS:
            numbers = some_numbers(tower, 5 if len(tower[0]) < 5 else 7) + self.great_ones(tower)
            pairs = [(deed, one, other) for deed in DEEDS for one, other in product(numbers, repeat=2)]
            for deed, one, other in pairs[::1 + len(pairs) // 120]:
                top = least_kind_found(tower, deed, one[0], other[0])
                if top is NoKind:
                    self.refused(NoKind, all_answers, tower, deed, one, other)
                elif type(top) is tuple:
                    self.refused_with(TwoKinds, {"one": top[0], "other": top[1]}, all_answers, tower, deed, one, other)
                else:
                    self.told(answers_found(tower, deed, one, other, top), all_answers, tower, deed, one, other)

    def test_one_way_each(self):
        self.told([(("worth", 5), (0,), (0,))], all_answers, LINE, "plus", (0, 2), (0, 3))
        self.told([(("worth", (2, 3)), (0, 1), (0, 1))], all_answers, LINE, "over", (0, 2), (0, 3))
        self.told([(("nought",), (0, 1), (0, 1))], all_answers, LINE, "over", (0, 2), (0, 0))
        self.told([(("great",), (0, 1), (1,))], all_answers, LINE, "plus", (0, BOUND + 1), (1, (1, 2)))
        self.told([(("great",), (0,), (0,))], all_answers, LINE, "plus", (0, BOUND), (0, BOUND))
        self.told([(("great",), (0, 1), (0, 1))], all_answers, LINE, "over", (0, BOUND + 1), (0, 0))

    def test_several_ways(self):
        self.told([(("worth", (11, 2)), (0, 1, 2, 3), (3,)), (("worth", (1, 3)), (0, 1, 3), (3,))],
                  all_answers, ROUNDS, "plus", (0, 1045), (3, (0, 0)))
        self.told([(("worth", (12, 2)), (3,), (0, 1, 2, 3)), (("worth", (11, 2)), (3,), (0, 1, 3))],
                  all_answers, ROUNDS, "plus", (3, (1, 2)), (0, 1045))
        self.told([(("worth", (5, 0)), (0, 1, 2, 3), (3,))], all_answers, ROUNDS, "plus", (0, 2), (3, (3, 0)))

    def test_several_ways_of_both(self):
        tower = ((WHOLE, A1, A2, A3, S0), steps((0, 1), (0, 2), (0, 3), (1, 3), (2, 3)))
        # In the LEAST candidate, whole itself, there is one way alone.
        self.told([(("worth", 290), (0,), (0,))], all_answers, tower, "plus", (0, 145), (0, 145))
        over = all_answers(tower, "plus", (0, 145), (3, (145, 0)))
        self.assertEqual(over, [(("worth", (245, 0)), (0, 1, 3), (3,)), (("worth", (295, 0)), (0, 2, 3), (3,)),
                                (("worth", (29, 1)), (0, 3), (3,))])

    def test_noughts_beside_worths(self):
        tower = ((WHOLE, ("rest", 4), ("rest", 6), OWN_FOUR),
                 ((0, 1, None), (0, 2, None), (1, 3, (0, 1, 2, 3)), (2, 3, (1, 0, 2, 3, 1, 2))))
        self.told([(("nought",), (3,), (0, 1, 3)), (("worth", 2), (3,), (0, 2, 3))], all_answers, tower, "over",
                  (3, 2), (0, 0))
        self.told([(("worth", 2), (3,), (0, 1, 3)), (("nought",), (3,), (0, 2, 3))], all_answers, tower, "over",
                  (3, 2), (0, 1))

    def test_great_ones_beside_worths(self):
        tower = ((WHOLE, SHARE, A1, S0), steps((0, 1), (0, 2), (1, 2), (2, 3)))
        great = 2 * BOUND
        self.told([(("great",), (0, 1, 2), (2,)), (("worth", (3, 300)), (0, 2), (2,))], all_answers, tower, "plus",
                  (0, great), (2, (1, 300)))
        self.told([(("great",), (2,), (0, 1, 2)), (("worth", (-1, 300)), (2,), (0, 2))], all_answers, tower, "less",
                  (2, (1, 300)), (0, great))
        self.told([(("great",), (0, 1, 2, 3), (3,))], all_answers, tower, "less", (0, great), (3, ((0, 1), (0, 1))))
        self.told([(("great",), (0, 1, 2), (2,)), (("nought",), (0, 2), (2,))], all_answers, tower, "over", (0, great),
                  (2, (0, 0)))

    def test_many_ways(self):
        for one, other in (((0, 145), (6, ((1, 2), (1, 1)))), ((0, 1495), (7, ((1, 1), (1, 1)))),
                           ((1, (1445, 1)), (7, ((0, 1), (2, 1)))), ((4, (145, 0)), (5, ((1, 2), (1, 3))))):
            for deed in DEEDS:
                top = least_kind_found(EIGHT, deed, one[0], other[0])
                self.told(answers_found(EIGHT, deed, one, other, top), all_answers, EIGHT, deed, one, other)

    def test_told_lists_changed_and_asked_again(self):
        handed = (COARSE, "plus", (0, 145), (3, (145, 0)))
        wanted = all_answers(*handed)
        all_answers(*handed).clear()
        self.told(wanted, all_answers, *handed)


class Refusals(MixedCase):
    def test_all(self):
        for function in (mixed_deed, all_answers):
            self.refuses_towers(function, ("plus", (0, 1), (0, 1)), (None, None, None), ("over", (0, 1), (0, 0)))
            self.refuses_numbers(function, ("plus",))
            self.refuses_numbers(function, ("over",))

    def test_deeds(self):
        for function in (mixed_deed, all_answers):
            for thing in THINGS + list(NO_DEEDS):
                if type(thing) is not str or thing not in DEEDS:
                    self.refused(NoDeed, function, LINE, thing, (0, 1), (0, 2))
                    self.refused(NoDeed, function, LINE, thing, None, None)
                    self.refused(NoDeed, function, APART, thing, (0, 1), (1, (1, 1)))

    def test_in_order(self):
        for function in (mixed_deed, all_answers):
            self.refused(BadWorth, function, APART, "plus", (0, 1), (1, 1))
            self.refused(BadWorth, function, CROSS, "plus", (0, (1, 1)), (1, (1, 1)))
            self.refused(BadWorth, function, LINE, "over", (0, BOUND + 1), (0, True))
            self.refused(NoKind, function, FORK, "over", (4, 1), (4, 0))
            self.refused(NoKind, function, APART, "over", (0, BOUND + 1), (1, (0, 1)))
            self.refused(TwoKinds, function, CROSS, "over", (0, 2 * BOUND), (1, (0, 1)))

