"""[32] TOWERS and their steps: towerwise.towers."""

from itertools import product

from tests.things import OWN_SIX, OWN_TWO, THINGS, whole
from tests.towercase import (A1, A2, A3, ALONE, APART, BAD_TOWERS, EIGHT, EIGHT_KINDS, FALLING, GOOD_TOWERS, LINE,
                             OWN_FOUR, OWN_THREE, OWNS, REST, RESTS, ROUNDS, S0, S2, S6, SHARE, TowerCase, WHOLE, steps)
from towerwise.errors import BadKind, BadNumber, BadTower
from towerwise.towers import is_tower, need_tower, steps_from, with_kind, with_step

SORTS = [WHOLE, SHARE, ("root", 2), ("root", 7), ("rest", 2), ("rest", 3), ("rest", 6), ("rest", 12), A1, A2, A3, S0,
         S2, S6, OWN_TWO, OWN_THREE, OWN_FOUR, OWN_SIX]
# Which words lead to which without a ROW.
PLAIN = {("whole", "share"), ("whole", "root"), ("whole", "rest"), ("whole", "about"), ("whole", "sure"),
         ("share", "root"), ("share", "about"), ("share", "sure"), ("root", "sure"), ("about", "about"),
         ("about", "sure"), ("sure", "sure")}
NO_KINDS = [("rest", 13), ("root", 4), ("whole", 1), ["whole"], "whole", None, True, 0, (), (("whole",),), {}]
# What stands in no step's place, whatever the kinds are.
NO_STEPS = [None, True, 0, 1, "01", (), (0,), (0, 1), (0, 1, None, None), [0, 1, None], (0, (1,), None),
            ("0", "1", None),
            (None, 1, None), (0, None, None), ((0, 1), None), {0: 1}, (True, 1, None), (0, True, None),
            (False, 1, None)]


def may_stand(one, other):
    """Tell, by the words, whether a step without a ROW may lead from a kind to another one."""
    if one[0] == other[0] == "rest":
        return one[1] % other[1] == 0
    return (one[0], other[0]) in PLAIN


def many(kind):
    """Tell how many worths a finite kind has."""
    return kind[1] if kind[0] == "rest" else len(kind[1])


def is_row(thing, length, count):
    """Tell whether a thing is a tuple of so many whole numbers below count."""
    return type(thing) is tuple and len(thing) == length and all(whole(part) and 0 <= part < count for part in thing)


class Towers(TowerCase):
    def good(self, thing):
        """This is a tower."""
        self.told(True, is_tower, thing)
        self.told(None, need_tower, thing)

    def bad(self, place, thing):
        """This is none, and that is the place at which it goes wrong."""
        self.told(False, is_tower, thing)
        self.refused_with(BadTower, {"place": place}, need_tower, thing)

    def test_good_ones(self):
        for tower in GOOD_TOWERS:
            self.good(tower)

    def test_bad_ones(self):
        for place, thing in BAD_TOWERS:
            self.bad(place, thing)

    def test_things_of_every_kind(self):
        self.refuses_towers(need_tower, ())
        for thing in THINGS:
            self.told(False, is_tower, thing)
            self.bad((), (thing, (), ()))
            if thing not in SORTS:
                self.bad((0, 0), ((thing, WHOLE), ()))
            if type(thing) is not tuple:
                self.bad((), ((WHOLE,), thing))
                self.bad((), (thing, ()))

    def test_one_to_eight_kinds(self):
        for count in range(1, 9):
            self.good((EIGHT_KINDS[:count], ()))
            self.good((EIGHT_KINDS[:count], tuple(step for step in EIGHT[1] if max(step[:2]) < count)))
        self.bad((), (EIGHT_KINDS + (REST,), ()))
        self.bad((), (EIGHT_KINDS + EIGHT_KINDS, ()))
        self.bad((), ((), ()))

    def test_each_sort_of_kind_alone(self):
        for kind in SORTS:
            self.good(((kind,), ()))

    def test_no_kinds_at_each_place(self):
        for place in range(8):
            for wrong in NO_KINDS + list(EIGHT_KINDS[:place]):
                kinds = EIGHT_KINDS[:place] + (wrong,) + EIGHT_KINDS[place + 1:]
                if wrong not in EIGHT_KINDS[:place]:
                    self.bad((0, place), (kinds, ()))
                    self.bad((0, place), (kinds, (None,)))
                else:
                    self.bad((0, place), (kinds, ((0, 0, None),)))

    def test_the_first_wrong_kind_is_told(self):
        self.bad((0, 1), ((WHOLE, None, None), ()))
        self.bad((0, 1), ((WHOLE, WHOLE, None), ()))
        self.bad((0, 2), ((WHOLE, SHARE, SHARE, None), ()))
        self.bad((0, 2), ((OWN_TWO, OWN_SIX, OWN_TWO), (None,)))

    def test_kinds_that_are_like_but_not_alike(self):
        self.good(((("rest", 2), ("rest", 3), OWN_TWO, ("own", OWN_TWO[2], OWN_TWO[1])), ()))
        self.good(((A1, A2, A3, S0, ("sure", 1), S2, ("root", 2), ("root", 3)), ()))

    def test_steps_by_sort_of_both_kinds(self):
        for one, other in product(SORTS, repeat=2):
            if one != other:
                for kinds, step in (((one, other), (0, 1, None)), ((other, one), (1, 0, None))):
                    if may_stand(one, other):
                        self.good((kinds, (step,)))
                    else:
                        self.bad((1, 0), (kinds, (step,)))

    def test_rows_by_sort_of_both_kinds(self):
        for one, other in product(SORTS, repeat=2):
            if one != other:
                row = (0,) * (many(one) if one[0] in ("rest", "own") else 2)
                if one[0] in ("rest", "own") and other[0] == "own":
                    self.good(((one, other), ((0, 1, row),)))
                    self.bad((1, 0), ((one, other), ((0, 1, None),)))
                else:
                    self.bad((1, 0), ((one, other), ((0, 1, row),)))
                    self.bad((1, 0), ((one, other), ((0, 1, ()),)))

    def test_none_is_wanted_where_there_is_no_row(self):
        for how in THINGS:
            if how is not None:
                self.bad((1, 0), ((WHOLE, SHARE), ((0, 1, how),)))
                self.bad((1, 0), ((("rest", 4), ("rest", 2)), ((0, 1, how),)))
                self.bad((1, 0), ((A2, A1), ((0, 1, how),)))

    def test_rows(self):
        for one, other in ((("rest", 3), OWN_FOUR), (("rest", 12), OWN_TWO), (OWN_TWO, OWN_SIX), (OWN_SIX, OWN_THREE)):
            length, count = many(one), many(other)
            good = tuple(place % count for place in range(length))
            self.good(((one, other), ((0, 1, good),)))
            self.good(((other, one) if other[0] == "own" else (one, other), ((1, 0, good),)))
            for how in (good[1:], good + (0,), good + good, (), list(good), None, 0, str(good)):
                self.bad((1, 0), ((one, other), ((0, 1, how),)))
            for place, wrong in product(range(length), (-1, count, True, False, None, "0", (0,), [0], 10 ** 60)):
                self.bad((1, 0), ((one, other), ((0, 1, good[:place] + (wrong,) + good[place + 1:]),)))
            for thing in THINGS:
                if not is_row(thing, length, count):
                    self.bad((1, 0), ((one, other), ((0, 1, thing),)))

    def test_rows_of_two_worths(self):
        kinds = (OWN_TWO, ("own", OWN_TWO[2], OWN_TWO[1]))
        for row in product((0, 1), repeat=2):
            self.good((kinds, ((0, 1, row),)))
            self.good((kinds, ((1, 0, row),)))
        self.bad((1, 0), (kinds, ((0, 1, (0, 2)),)))

    def test_no_steps_of_any_kind(self):
        for place in range(len(LINE[1]) + 1):
            for wrong in NO_STEPS + THINGS:
                self.bad((1, place), (LINE[0], LINE[1][:place] + (wrong,) + LINE[1][place:]))

    def test_numbers_of_no_kind(self):
        for one, other in ((-1, 0), (-1, 3), (0, -1), (0, 6), (6, 0), (0, 10 ** 60), (-4, 1), (0, -3), (4, 7), (5, 6)):
            self.bad((1, 0), (LINE[0], ((one, other, None),)))
            self.bad((1, 0), (FALLING[0], ((one, other, None),)))

    def test_from_a_kind_to_itself(self):
        for number in range(4):
            self.bad((1, 0), (LINE[0], ((number, number, None),)))
        self.bad((1, 0), ((OWN_TWO,), ((0, 0, (0, 1)),)))
        self.bad((1, 0), ((A1, A2), ((1, 1, None),)))

    def test_steps_out_of_order_and_twice(self):
        for tower in (ROUNDS, RESTS, OWNS, EIGHT):
            kinds, told = tower
            for place in range(len(told) - 1):
                swapped = told[:place] + (told[place + 1], told[place]) + told[place + 2:]
                self.bad((1, place + 1), (kinds, swapped))
                self.bad((1, place + 1), (kinds, told[:place + 1] + told[place:]))
            self.bad((1, len(told)), (kinds, told + told[:1]))
            self.bad((1, len(told)), (kinds, told + told[-1:]))
        self.bad((1, 1), ((OWN_TWO, OWN_THREE), ((0, 1, (0, 1)), (0, 1, (1, 2)))))

    def test_order_is_by_the_first_number_ahead_of_the_second(self):
        self.good((ROUNDS[0], steps((0, 4), (1, 2))))
        self.bad((1, 1), (ROUNDS[0], steps((1, 2), (0, 4))))
        self.good(((S0, A1, A2), steps((1, 0), (2, 0))))
        self.bad((1, 1), ((S0, A1, A2), steps((2, 0), (1, 0))))

    def test_rings_of_two(self):
        for one, other in ((A1, A3), (S0, S6)):
            self.bad((2,), ((one, other), steps((0, 1), (1, 0))))
            self.bad((2,), ((WHOLE, one, SHARE, other), steps((0, 1), (1, 3), (2, 3), (3, 1))))
            self.good(((one, other), steps((1, 0))))
        self.bad((2,), ((OWN_TWO, OWN_THREE), ((0, 1, (0, 1)), (1, 0, (0, 0, 0)))))

    def test_rings_of_three_and_more(self):
        self.bad((2,), ((A1, A2, A3), steps((0, 1), (1, 2), (2, 0))))
        self.bad((2,), ((A1, A2, A3), steps((0, 2), (1, 0), (2, 1))))
        self.good(((A1, A2, A3), steps((0, 2), (1, 0), (1, 2))))
        self.bad((2,), ((S0, S2, S6, WHOLE), steps((0, 1), (1, 2), (2, 0), (3, 0))))
        owns = (OWN_TWO, OWN_THREE, OWN_FOUR)
        self.bad((2,), (owns, ((0, 1, (0, 1)), (1, 2, (0, 0, 1)), (2, 0, (0, 0, 0, 0)))))
        sures = tuple(("sure", places) for places in range(7))
        self.bad((2,), (sures, steps((0, 4), (1, 5), (2, 6), (3, 0), (4, 1), (5, 2), (6, 3))))
        self.good((sures, steps((0, 4), (1, 5), (2, 6), (4, 1), (5, 2), (6, 3))))

    def test_a_wrong_step_is_told_ahead_of_a_ring(self):
        self.bad((1, 2), ((A1, A2), steps((0, 1), (1, 0), (1, 0))))
        self.bad((1, 2), ((A1, A2, SHARE), steps((0, 1), (1, 0), (1, 2))))
        self.bad((0, 2), ((A1, A2, A1), steps((0, 1), (1, 0))))


class StepsFrom(TowerCase):
    def test_all(self):
        for tower in GOOD_TOWERS:
            for number in range(len(tower[0])):
                self.told([step[1] for step in tower[1] if step[0] == number], steps_from, tower, number)

    def test_by_hand(self):
        self.told([1, 2, 4], steps_from, ROUNDS, 0)
        self.told([], steps_from, ROUNDS, 5)
        self.told([2, 3], steps_from, FALLING, 4)
        self.told([], steps_from, ALONE, 0)

    def test_refusals(self):
        self.refuses_towers(steps_from, (0,), (None,))
        for tower in GOOD_TOWERS:
            count = len(tower[0])
            for number in (-1, count, count + 1, True, False, None, "0", (0,), [0], 10 ** 60, -10 ** 60):
                self.refused(BadNumber, steps_from, tower, number)
        self.refuses_others(BadNumber, steps_from, lambda thing: whole(thing) and 0 <= thing < 6, ahead=(ROUNDS,))


class WithKind(TowerCase):
    def test_a_kind_more(self):
        for tower in GOOD_TOWERS:
            for kind in SORTS:
                if len(tower[0]) < 8 and kind not in tower[0]:
                    self.told((tower[0] + (kind,), tower[1]), with_kind, tower, kind)
                    self.told(True, is_tower, with_kind(tower, kind))

    def test_what_is_there(self):
        for tower in GOOD_TOWERS:
            for kind in tower[0]:
                self.refused_with(BadTower, {"place": (0, len(tower[0]))}, with_kind, tower, kind)

    def test_a_ninth_one(self):
        for kind in (REST, OWN_TWO, WHOLE, S2):
            self.refused_with(BadTower, {"place": (0, 8)}, with_kind, EIGHT, kind)

    def test_refusals(self):
        self.refuses_towers(with_kind, (WHOLE,), (None,), (A2,))
        for kind in NO_KINDS:
            for tower in GOOD_TOWERS:
                self.refused(BadKind, with_kind, tower, kind)
        self.refuses_others(BadKind, with_kind, lambda thing: type(thing) is tuple and thing in (
            WHOLE, SHARE, ("root", 2), ("rest", 2), A3, S6, OWN_TWO), ahead=(ALONE,))


class WithStep(TowerCase):
    def refused_at(self, place, tower, step):
        """The step is refused with this place."""
        self.refused_with(BadTower, {"place": place}, with_step, tower, step)

    def test_each_step_taken_out_and_put_back(self):
        for tower in GOOD_TOWERS:
            kinds, told = tower
            for place in range(len(told)):
                less = (kinds, told[:place] + told[place + 1:])
                self.told(tower, with_step, less, told[place])
                self.refused_at((1, place), tower, told[place])

    def test_towers_built_step_by_step(self):
        for tower in GOOD_TOWERS:
            for told in (tower[1], tower[1][::-1], tower[1][1::2] + tower[1][::2]):
                grown = (tower[0], ())
                for step in told:
                    grown = with_step(grown, step)
                    self.told(True, is_tower, grown)
                self.assertEqual(grown, tower)

    def test_what_can_not_stand_there(self):
        # Behind (0, 1) and (1, 2), ahead of (2, 3).
        for step, place in (((1, 2, None), 1), ((1, 3, (0,)), 2), ((2, 0, None), 2), ((2, 1, None), 2),
                            ((3, 0, None), 3),
                            ((0, 0, None), 0), ((1, 1, None), 1), ((3, 3, None), 3), ((0, 2, 5), 1), ((0, 4, None), 1),
                            ((4, 0, None), 3), ((-1, 9, None), 0), ((-1, 0, 3), 0), ((1, -1, None), 1),
                            ((10 ** 60, 0, None), 3), ((1, 10 ** 60, None), 2), ((0, 1, (0, 1)), 0), ((2, 3, 7), 2)):
            self.refused_at((1, place), LINE, step)

    def test_a_pair_that_is_there(self):
        for place, step in enumerate(OWNS[1]):
            self.refused_at((1, place), OWNS, step)
            self.refused_at((1, place), OWNS, step[:2] + ((0,) * len(step[2]),))
            self.refused_at((1, place), OWNS, step[:2] + (None,))

    def test_things_of_every_kind(self):
        for tower in GOOD_TOWERS:
            for thing in NO_STEPS + THINGS:
                place = (1, len(tower[1]))
                if thing == (1, 2, 3):
                    place = (1, len([step for step in tower[1] if step[:2] < (1, 2)]))
                self.refused_at(place, tower, thing)

    def test_hows_of_every_kind(self):
        for thing in THINGS:
            if thing is not None:
                self.refused_at((1, 1), LINE, (0, 2, thing))
            if not is_row(thing, 2, 4):
                self.refused_at((1, 3), (OWNS[0], OWNS[1][:3]), (2, 3, thing))

    def test_rings(self):
        for tower, step in ((((A1, A2, A3), steps((0, 1), (1, 2))), (2, 0, None)),
                            (((A1, A2), steps((1, 0))), (0, 1, None)),
                            (((OWN_TWO, OWN_THREE), ((0, 1, (0, 1)),)), (1, 0, (0, 0, 1))),
                            (((S0, S2, S6), steps((1, 0), (2, 1))), (0, 2, None))):
            self.told(True, is_tower, tower)
            self.refused_at((2,), tower, step)

    def test_no_ring_behind_what_can_not_stand(self):
        tower = ((A1, A2, SHARE), steps((0, 1)))
        self.refused_at((1, 1), tower, (1, 0, 5))
        self.refused_at((1, 1), tower, (1, 2, None))

    def test_refusals(self):
        self.refuses_towers(with_step, ((0, 1, None),), (None,), ((0, 0, None),))

    def test_the_tower_that_was_handed_in_stays(self):
        tower = (APART[0], ())
        grown = with_kind(with_step(tower, (0, 1, None)), A1)
        self.assertEqual(grown, (APART[0] + (A1,), ((0, 1, None),)))
        self.assertEqual(tower, APART)
        self.told((APART[0], ((0, 2, None),)), with_step, tower, (0, 2, None))
