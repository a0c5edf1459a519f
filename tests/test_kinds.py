"""[2] KINDS: towerwise.kinds."""

from tests.things import Case, KINDS, OWN_SIX, OWN_TWO, THINGS
from towerwise.errors import BadKind, BadNumber
from towerwise.kinds import is_finite, is_kind, many_worths, need_kind

# D from 2 to 60 that no square but 1 divides, written out.
ROOTS = (2, 3, 5, 6, 7, 10, 11, 13, 14, 15, 17, 19, 21, 22, 23, 26, 29, 30, 31, 33, 34, 35, 37, 38, 39, 41, 42, 43, 46,
         47, 51, 53, 55, 57, 58, 59)
NUMBERS = list(range(-5, 70)) + [100, 121, 10 ** 60, -10 ** 60]
EVEN_TABLE = ((0, 1), (1, 0))


def is_good(thing):
    """Tell which of the THINGS are kinds."""
    return type(thing) is tuple and thing in (
        ("whole",), ("share",), ("root", 2), ("rest", 2), ("about", 3), ("sure", 6), OWN_TWO)


def table(many, number=0):
    """Make a table of that size, the same number at all places."""
    return ((number,) * many,) * many


def changed(rows, at, row):
    """Tell the table with another row at that place."""
    return rows[:at] + (row,) + rows[at + 1:]


class IsKind(Case):
    def holds(self, wanted, thing):
        """Both functions tell so of the thing."""
        self.told(wanted, is_kind, thing)
        if wanted:
            self.told(None, need_kind, thing)
        else:
            self.refused(BadKind, need_kind, thing)

    def test_words_alone(self):
        self.holds(True, ("whole",))
        self.holds(True, ("share",))
        for word in ("root", "rest", "about", "sure", "own", "", "Whole", "whole ", "shares", "real", "a"):
            self.holds(False, (word,))

    def test_whole_and_share_have_nothing_behind(self):
        for word in ("whole", "share"):
            for behind in (None, 0, 1, 2, 5, "", ()):
                self.holds(False, (word, behind))
                self.holds(False, (word, behind, behind))

    def test_roots(self):
        for number in NUMBERS:
            self.holds(number in ROOTS, ("root", number))

    def test_rests(self):
        for number in NUMBERS:
            self.holds(2 <= number <= 12, ("rest", number))

    def test_abouts(self):
        for number in NUMBERS:
            self.holds(1 <= number <= 3, ("about", number))

    def test_sures(self):
        for number in NUMBERS:
            self.holds(0 <= number <= 6, ("sure", number))

    def test_numbers_that_are_none(self):
        for word in ("root", "rest", "about", "sure"):
            for thing in THINGS:
                if type(thing) is not int:
                    self.holds(False, (word, thing))

    def test_other_words_with_a_number(self):
        for word in ("Root", "roots", "", "own", "whole", "share", "real", "rest ", " rest"):
            for number in (0, 1, 2, 3):
                self.holds(False, (word, number))

    def test_too_many_parts(self):
        for kind in KINDS:
            self.holds(False, kind + (None,))
            self.holds(False, kind + (2,))
            self.holds(False, kind + kind)
            self.holds(False, kind + (EVEN_TABLE,))

    def test_lists_and_the_like_in_place_of_the_tuple(self):
        for kind in KINDS:
            self.holds(False, list(kind))
            self.holds(False, (kind,))
            self.holds(False, kind[0])
            self.holds(False, kind[1:])
            self.holds(False, {kind[0]: kind[1:]})

    def test_things_in_place_of_the_word(self):
        for thing in THINGS:
            if type(thing) is not str or thing not in ("whole", "share"):
                self.holds(False, (thing,))
            self.holds(False, (thing, None))
            self.holds(False, (thing, 2))
            self.holds(False, (thing, EVEN_TABLE, EVEN_TABLE))

    def test_all_other_things(self):
        for thing in THINGS:
            self.holds(is_good(thing), thing)


class OwnKinds(Case):
    def holds(self, wanted, plus, times):
        """Both functions tell so of the own kind of these tables."""
        self.told(wanted, is_kind, ("own", plus, times))
        if wanted:
            self.told(None, need_kind, ("own", plus, times))
        else:
            self.refused(BadKind, need_kind, ("own", plus, times))

    def either(self, wanted, one):
        """It holds so whichever of both tables this one is."""
        other = table(len(one) if isinstance(one, tuple) and 2 <= len(one) <= 6 else 2)
        self.holds(wanted, one, other)
        self.holds(wanted, other, one)
        self.holds(wanted, one, one)

    def test_sizes(self):
        for many in range(0, 10):
            self.either(2 <= many <= 6, table(many))

    def test_tables_of_unlike_sizes(self):
        for one in range(2, 7):
            for other in range(2, 7):
                self.holds(one == other, table(one), table(other))

    def test_numbers_at_each_bound(self):
        for many in range(2, 7):
            for number in range(-3, 10):
                self.either(0 <= number < many, table(many, number))

    def test_one_wrong_number_anywhere(self):
        for many in (2, 3, 6):
            good = table(many)
            for at in range(many):
                for place in range(many):
                    for number in (-1, many, True, False, None, "0", (0,), [0], 10 ** 60):
                        self.either(False, changed(good, at, good[at][:place] + (number,) + good[at][place + 1:]))
                    best = good[at][:place] + (many - 1,) + good[at][place + 1:]
                    self.either(True, changed(good, at, best))

    def test_one_wrong_row_anywhere(self):
        for many in (2, 3, 6):
            good = table(many)
            for at in range(many):
                for row in ((0,) * (many - 1), (0,) * (many + 1), (), [0] * many, 0, None, "0" * many, b"00",
                            {0: 0}, True):
                    self.either(False, changed(good, at, row))

    def test_rows_too_many_or_too_few(self):
        for many in (2, 3, 4, 5, 6):
            row = (0,) * many
            for rows in range(0, 9):
                self.either(rows == many, (row,) * rows)

    def test_lists_and_all_else_in_place_of_a_table(self):
        tables = (((0, 1), (0, 1)), ((1, 1), (0, 1)))
        for thing in THINGS:
            wanted = type(thing) is tuple and thing in tables
            self.holds(wanted, EVEN_TABLE, thing)
            self.holds(wanted, thing, EVEN_TABLE)
            self.holds(wanted, thing, thing)
        self.holds(False, list(EVEN_TABLE), EVEN_TABLE)
        self.holds(False, EVEN_TABLE, list(EVEN_TABLE))
        self.holds(False, EVEN_TABLE, ([0, 1], (1, 0)))

    def test_tables_are_any(self):
        self.holds(True, ((1, 0, 2), (2, 2, 2), (0, 1, 0)), ((0, 0, 1), (1, 2, 0), (2, 2, 2)))

    def test_one_table_or_three(self):
        for thing in (("own", EVEN_TABLE), ("own", EVEN_TABLE, EVEN_TABLE, EVEN_TABLE),
                      ("own", EVEN_TABLE + EVEN_TABLE), ("own",) + EVEN_TABLE, ("Own", EVEN_TABLE, EVEN_TABLE),
                      ("rest", EVEN_TABLE, EVEN_TABLE)):
            self.told(False, is_kind, thing)


class Finite(Case):
    def test_which_are(self):
        for kind in KINDS:
            self.told(kind[0] in ("rest", "own"), is_finite, kind)

    def test_many_worths_of_rests(self):
        for number in range(2, 13):
            self.told(True, is_finite, ("rest", number))
            self.told(number, many_worths, ("rest", number))

    def test_many_worths_of_own_ones(self):
        for many in range(2, 7):
            self.told(True, is_finite, ("own", table(many), table(many)))
            self.told(many, many_worths, ("own", table(many), table(many)))
        self.told(2, many_worths, OWN_TWO)
        self.told(6, many_worths, OWN_SIX)

    def test_others_have_no_last_worth(self):
        for kind in KINDS:
            if kind[0] not in ("rest", "own"):
                self.refused(BadNumber, many_worths, kind)

    def test_no_kinds(self):
        for function in (is_finite, many_worths, need_kind):
            self.refuses_others(BadKind, function, is_good)
            for thing in (("rest", 13), ("rest", 1), ("rest", True), ("own",), ("own", (), ()), ("root", 4),
                          ["rest", 2]):
                self.refused(BadKind, function, thing)
