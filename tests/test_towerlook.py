"""[32] The look at a TOWER, taken ahead of each question: two great towers, spoilt at one place each."""

from itertools import permutations

from tests.things import THINGS, whole
from tests.towercase import TowerCase, steps
from towerwise.errors import BadTower
from towerwise.kinds import is_kind
from towerwise.towers import is_tower, need_tower

OWN = ("own",
       ((3, 2, 1, 0, 5, 4), (2, 5, 4, 1, 3, 0), (1, 4, 5, 2, 0, 3), (0, 1, 2, 3, 4, 5), (5, 3, 0, 4, 2, 1),
        (4, 0, 3, 5, 1, 2)),
       ((0, 0, 3, 3, 0, 3), (0, 1, 2, 3, 4, 5), (3, 2, 2, 3, 5, 5), (3, 3, 3, 3, 3, 3), (0, 4, 5, 3, 1, 2),
        (3, 5, 5, 3, 2, 2)))
ROW = (3, 1, 5, 0, 2, 4)
# Eight kinds, one of them an own kind of six worths, and eleven steps.
T1 = ((("rest", 12), OWN, ("share",), ("about", 3), ("whole",), ("rest", 6), ("sure", 6), ("root", 59)),
      steps((0, 5), (2, 6), (2, 7), (4, 0), (4, 2), (4, 3), (4, 5), (4, 6), (4, 7), (5, 1, ROW), (7, 6)))
# Eight kinds and all of their 28 steps.
T2 = ((("sure", 5), ("sure", 0), ("sure", 4), ("whole",), ("sure", 6), ("sure", 2), ("sure", 3), ("sure", 1)),
      steps((0, 2), (0, 5), (1, 0), (1, 2), (1, 4), (1, 5), (1, 7), (3, 0), (3, 1), (3, 2), (3, 4), (3, 5), (3, 6),
            (3, 7), (4, 0), (4, 2), (4, 5), (4, 7), (5, 2), (6, 0), (6, 1), (6, 2), (6, 4), (6, 5), (6, 7), (7, 0),
            (7, 2), (7, 5)))
BOTH = (T1, T2)
NO_NUMBERS = [None, True, False, "0", "1", (0,), [0], (), b"0", 10 ** 60, -10 ** 60]


def put(row, place, thing):
    """Put a thing in one place of a tuple."""
    return row[:place] + (thing,) + row[place + 1:]


def own_with(table, rows):
    """Make the own kind with other rows in one of its tables, 1 or 2."""
    return put(OWN, table, rows)


class Look(TowerCase):
    def bad(self, place, thing):
        """This is no tower, and that is the place at which it goes wrong."""
        self.told(False, is_tower, thing)
        self.refused_with(BadTower, {"place": place}, need_tower, thing)

    def no_kind(self, thing):
        """This is no kind, neither alone nor in the great tower."""
        self.told(False, is_kind, thing)
        self.bad((0, 1), (put(T1[0], 1, thing), T1[1]))

    def test_both_are_towers(self):
        for tower in BOTH:
            self.told(True, is_tower, tower)
            self.told(None, need_tower, tower)
        self.told(True, is_kind, OWN)

    def test_each_kind_spoilt(self):
        for kinds, told in BOTH:
            for place, kind in enumerate(kinds):
                wrong = [None, True, 0, "whole", (), list(kind), kind + (1,), (kind,), (True,) + kind[1:]]
                wrong += [("Whole",), ("own",), ("root", 4), ("rest", 1), ("rest", 13), ("about", 0), ("sure", 7)]
                wrong += [(kind[0], True), (kind[0], None), (kind[0], [6]), (kind[0], "6"), ([kind[0]], 6)]
                wrong += [thing for thing in THINGS if type(thing) is not tuple]
                for thing in wrong:
                    self.bad((0, place), (put(kinds, place, thing), told))

    def test_each_kind_told_twice(self):
        for kinds, told in BOTH:
            for place in range(8):
                for ahead in range(place):
                    self.bad((0, place), (put(kinds, place, kinds[ahead]), told))

    def test_nine_kinds_and_none(self):
        for kinds, told in BOTH:
            self.bad((), (kinds + (("rest", 5),), told))
            self.bad((), (kinds + kinds[:1], told))
            self.bad((), ((), told))
            self.bad((), (list(kinds), told))
            self.bad((), (kinds, list(told)))

    def test_each_step_spoilt(self):
        for kinds, told in BOTH:
            for place, (one, other, how) in enumerate(told):
                wrong = [None, True, 0, "01", (), (one, other), [one, other, how], (one, other, how, how), (one,)]
                wrong += [(one, other, 0), (one, other, ()), (one, other, ROW[:5]), (one, other, list(ROW))]
                wrong += [(one, one, how), (other, other, how), (one, 8, how), (8, other, how), (one, -1, how)]
                wrong += [(-1, other, how), (one, other - 8, how), (one - 8, other, how), (one, other + 8, how)]
                wrong += [(one + 8, other, how)] + [thing for thing in THINGS if type(thing) is not tuple]
                wrong += [(thing, other, how) for thing in NO_NUMBERS] + [(one, thing, how) for thing in NO_NUMBERS]
                for thing in wrong:
                    self.bad((1, place), (kinds, put(told, place, thing)))

    def test_steps_where_none_may_lead(self):
        for one, other in permutations(range(8), 2):
            if (one, other) not in [step[:2] for step in T1[1]]:
                ahead = [step for step in T1[1] if step[:2] < (one, other)]
                behind = [step for step in T1[1] if step[:2] > (one, other)]
                place = (1, len(ahead))
                if (one, other) in ((2, 3), (3, 6)):
                    self.told(True, is_tower, (T1[0], (*ahead, (one, other, None), *behind)))
                elif (one, other) == (0, 1):
                    self.bad(place, (T1[0], (*ahead, (one, other, None), *behind)))
                    self.told(True, is_tower, (T1[0], (*ahead, (one, other, ROW * 2), *behind)))
                else:
                    self.bad(place, (T1[0], (*ahead, (one, other, None), *behind)))
                    self.bad(place, (T1[0], (*ahead, (one, other, ROW), *behind)))

    def test_steps_out_of_order(self):
        for kinds, told in BOTH:
            for place in range(len(told) - 1):
                swapped = put(put(told, place, told[place + 1]), place + 1, told[place])
                self.bad((1, place + 1), (kinds, swapped))
                self.bad((1, place + 1), (kinds, told[:place + 1] + told[place:]))
                self.told(True, is_tower, (kinds, told[:place] + told[place + 1:]))

    def test_numbers_below_nought_count_no_kinds_from_the_end(self):
        kinds = (OWN, ("rest", 6), ("rest", 12))
        self.told(True, is_tower, (kinds, ((1, 0, ROW), (2, 0, ROW * 2), (2, 1, None))))
        for step in ((-1, 0, ROW * 2), (-2, 0, ROW), (-1, 1, None), (1, -3, ROW), (2, -2, None), (-1, -3, ROW * 2)):
            self.bad((1, 0), (kinds, (step,)))
            self.bad((1, 0), (kinds, (step, (1, 0, ROW))))
            self.bad((1, 1), (kinds, ((1, 0, ROW), step)))

    def test_each_number_of_the_tables_spoilt(self):
        for table in (1, 2):
            for place, row in enumerate(OWN[table]):
                for at, number in enumerate(row):
                    for wrong in [-1, 6, 7, -6, number + 6, number - 6] + NO_NUMBERS:
                        self.no_kind(own_with(table, put(OWN[table], place, put(row, at, wrong))))
                    for good in range(6):
                        self.told(True, is_kind, own_with(table, put(OWN[table], place, put(row, at, good))))

    def test_truths_in_the_place_of_numbers(self):
        for table in (1, 2):
            for place, row in enumerate(OWN[table]):
                for at, number in enumerate(row):
                    if number in (0, 1):
                        self.no_kind(own_with(table, put(OWN[table], place, put(row, at, number == 1))))
        for at, number in enumerate(ROW):
            if number in (0, 1):
                self.bad((1, 9), (T1[0], put(T1[1], 9, (5, 1, put(ROW, at, number == 1)))))
        for kinds, told in BOTH:
            for place, step in enumerate(told):
                for at in (0, 1):
                    if step[at] in (0, 1):
                        self.bad((1, place), (kinds, put(told, place, put(step, at, step[at] == 1))))

    def test_rows_of_the_tables_spoilt(self):
        for table in (1, 2):
            for place, row in enumerate(OWN[table]):
                wrong = [row[:5], row + (0,), row[1:], (), row * 2, list(row), None, 0, "012345", {0: 1}, (row,)]
                for thing in wrong + [thing for thing in THINGS if type(thing) is not tuple]:
                    self.no_kind(own_with(table, put(OWN[table], place, thing)))

    def test_tables_spoilt(self):
        for table in (1, 2):
            rows = OWN[table]
            five = tuple(row[:5] for row in rows[:5])
            for thing in (rows[:5], rows + rows[:1], list(rows), (), None, 5, five, rows[0], (rows,), rows * 2):
                self.no_kind(own_with(table, thing))

    def test_tables_of_each_size(self):
        for many in range(1, 8):
            table = tuple((0,) * many for _ in range(many))
            last = put(table, many - 1, (0,) * (many - 1) + (many - 1,))
            beyond = put(table, many - 1, (0,) * (many - 1) + (many,))
            below = put(table, 0, (-1,) + (0,) * (many - 1))
            self.told(2 <= many <= 6, is_kind, ("own", table, last))
            self.told(2 <= many <= 6, is_kind, ("own", last, table))
            for wrong in (beyond, below, table[1:], table + table[:1], list(table)):
                self.told(False, is_kind, ("own", table, wrong))
                self.told(False, is_kind, ("own", wrong, table))
        two, three = ((0, 1), (1, 0)), ((0, 1, 2),) * 3
        self.told(False, is_kind, ("own", two, three))
        self.told(False, is_kind, ("own", three, two))

    def test_the_row_of_a_step_spoilt(self):
        for at in range(6):
            for wrong in [-1, 6, -6] + NO_NUMBERS:
                self.bad((1, 9), (T1[0], put(T1[1], 9, (5, 1, put(ROW, at, wrong)))))
            for good in range(6):
                self.told(True, is_tower, (T1[0], put(T1[1], 9, (5, 1, put(ROW, at, good)))))
        for wrong in (ROW[:5], ROW + (0,), ROW * 2, list(ROW), (), None, 0, "315024", (ROW,)):
            self.bad((1, 9), (T1[0], put(T1[1], 9, (5, 1, wrong))))

    def test_numbers_just_beyond_the_kinds_bounds(self):
        for word, least, most in (("rest", 2, 12), ("about", 1, 3), ("sure", 0, 6), ("root", 2, 60)):
            good = [number for number in range(-3, 70) if least <= number <= most]
            if word == "root":
                good = [number for number in good if all(number % (part * part) for part in range(2, 8))]
            for number in range(-3, 70):
                self.told(number in good, is_kind, (word, number))
                if number in good:
                    for wrong in ((word, number, number), (word, (number,)), (word, True), (word.upper(), number)):
                        self.told(False, is_kind, wrong)

    def test_things_of_every_kind_behind_each_word(self):
        for word in ("whole", "share", "root", "rest", "about", "sure", "own", ""):
            for thing in THINGS:
                good = whole(thing) and (word, thing) in (("root", 2), ("root", 5), ("rest", 2), ("rest", 5),
                                                          ("about", 1), ("about", 2), ("sure", 0), ("sure", 1),
                                                          ("sure", 2), ("sure", 5))
                self.told(good, is_kind, (word, thing))
                self.told(False, is_kind, (thing, 2))
                self.told(False, is_kind, ("own", thing, OWN[2]))
                self.told(False, is_kind, ("own", OWN[1], thing))

    def test_rings_in_towers_of_eight_kinds(self):
        sures = T2[0][:3] + T2[0][4:]
        numbers = [number for number, kind in enumerate(T2[0]) if kind in sures]
        for one, other in permutations(numbers, 2):
            self.bad((2,), (T2[0], steps(*sorted([(one, other), (other, one)]))))
            with_whole = sorted([(one, other), (other, one), (3, one), (3, other)])
            self.bad((2,), (T2[0], steps(*with_whole)))
            self.told(True, is_tower, (T2[0], steps(*sorted([(one, other), (3, one), (3, other)]))))
        for one, other, last in permutations(numbers, 3):
            self.bad((2,), (T2[0], steps(*sorted([(one, other), (other, last), (last, one)]))))
            self.told(True, is_tower, (T2[0], steps(*sorted([(one, other), (other, last), (one, last)]))))

    def test_each_step_turned_round_makes_a_ring(self):
        for place, (one, other, _) in enumerate(T2[1]):
            both = tuple(sorted(T2[1] + ((other, one, None),)))
            if one == 3:
                self.bad((1, both.index((other, one, None))), (T2[0], both))
            else:
                self.bad((2,), (T2[0], both))

    def test_rings_of_own_and_about_kinds_beside_others(self):
        turned = put(put(OWN, 1, OWN[2]), 2, OWN[1])
        kinds = put(put(T1[0], 7, turned), 6, ("about", 1))
        told = ((1, 7, ROW), (4, 0, None), (4, 3, None), (5, 1, ROW), (7, 1, ROW))
        self.bad((2,), (kinds, told))
        self.told(True, is_tower, (kinds, told[:4]))
        self.bad((2,), (kinds, steps((2, 3), (3, 6), (4, 2), (6, 3))))
        self.told(True, is_tower, (kinds, steps((2, 3), (4, 2), (6, 3))))

    def test_a_wrong_part_is_told_ahead_of_a_ring(self):
        ring = steps((0, 1), (1, 0), (1, 3))
        self.bad((1, 2), (T2[0], ring))
        self.bad((0, 7), (put(T2[0], 7, T2[0][0]), ring))
        self.bad((2,), (T2[0], ring[:2]))
