"""[70] TERMS and EQUATIONS: towerwise.terms."""

from itertools import product

from tests.termcase import (A, ALL_KINDS, B, BAD_TERMS, C, D, OWN_BARE, OWN_LESS, OWN_NOUGHT, OWN_ONE, OWN_OR, OWNS,
                            PLAIN_KINDS, TermCase, lacks_found, less, nested, number, plus, stands, times, told_found,
                            wide)
from tests.test_worths import is_good
from tests.things import OWN_SIX, OWN_TWO, THINGS, whole
from tests.towercase import OWN_FOUR, some_worths
from towerwise.errors import BadKind, BadNumber, BadTerm, BadWorth, Lacking, TooGreat
from towerwise.terms import is_equation, is_term, lacks_term, names_in, need_term, number_at, term_at
from towerwise.worths import worth_at

GOOD_TERMS = [A, ("name", "abcdef"), number(0), number(9), number(-9), plus(A, B), less(A, A), times(number(2), C),
              plus(less(A, number(1)), times(B, plus(C, A))), nested(8), wide(29), nested(8, number(1)),
              plus(wide(15), wide(13, B))]
WHOLE, SHARE = ("whole",), ("share",)


class Terms(TermCase):
    def good(self, thing):
        """This is a term."""
        self.told(True, is_term, thing)
        self.told(None, need_term, thing)
        self.told(True, is_equation, (thing, thing))

    def bad(self, thing):
        """This is none, nor a side of an equation."""
        self.told(False, is_term, thing)
        self.refused(BadTerm, need_term, thing)
        self.told(False, is_equation, (thing, A))
        self.told(False, is_equation, (A, thing))

    def test_good_ones(self):
        for term in GOOD_TERMS:
            self.good(term)

    def test_bad_ones(self):
        for thing in BAD_TERMS + THINGS:
            self.bad(thing)
            if thing is not A:
                self.bad(plus(A, thing))
                self.bad(times(thing, number(1)))
                self.bad(less(plus(A, B), plus(thing, A)))

    def test_thirty_parts_and_thirty_one(self):
        # With two sides to each deed no term has just thirty parts: 29 are the most that are told.
        for parts in range(1, 30, 2):
            self.good(wide(parts))
        for parts in (31, 33, 35, 63):
            self.bad(wide(parts))
        # Each part counts as often as it stands, though it be one thing.
        seven = wide(7)
        fifteen = plus(seven, seven)
        self.good(fifteen)
        self.bad(plus(fifteen, fifteen))
        self.good(plus(fifteen, wide(13)))

    def test_eight_deep_and_nine(self):
        for deep in range(1, 9):
            self.good(nested(deep))
            self.good(nested(deep, number(-3)))
        for deep in (9, 10, 20, 40):
            self.bad(nested(deep))
            self.bad(nested(deep, number(1)))
        self.bad(plus(A, nested(8)))
        self.bad(plus(nested(8), A))
        self.good(plus(nested(7), nested(7)))

    def test_three_names_and_four(self):
        self.good(plus(plus(A, B), C))
        self.good(plus(plus(A, B), plus(C, A)))
        self.bad(plus(plus(A, B), plus(C, D)))
        self.bad(times(A, times(B, less(C, ("name", "aa")))))

    def test_numbers(self):
        for value in range(-12, 13):
            self.good(number(value)) if -9 <= value <= 9 else self.bad(number(value))
        for thing in THINGS:
            good = whole(thing) and -9 <= thing <= 9
            self.told(good, is_term, ("number", thing))

    def test_names(self):
        for thing in THINGS + ["abcdef", "abcdefg", "A", "a1", " a", "a "]:
            good = type(thing) is str and 1 <= len(thing) <= 6 and thing.isalpha() and thing.islower()
            self.told(good, is_term, ("name", thing))

    def test_over_is_no_deed_of_a_term(self):
        self.bad(("over", A, B))
        self.bad(plus(A, ("over", A, number(2))))

    def test_equations(self):
        for one, other in product(GOOD_TERMS, repeat=2):
            names = {part for term in (one, other) for part in names_in(term)}
            self.told(len(names) <= 3, is_equation, (one, other))
        self.told(False, is_equation, (plus(A, B), plus(C, D)))
        self.told(True, is_equation, (plus(A, B), plus(C, A)))
        self.told(False, is_equation, (plus(plus(A, B), C), D))
        for thing in (A, (A,), (A, A, A), [A, A], ("plus", A, A), (A, "="), None, {A: A}):
            self.told(False, is_equation, thing)
        for thing in THINGS:
            self.told(False, is_equation, thing)
        self.told(True, is_equation, (wide(29), wide(29, B)))
        self.told(True, is_equation, (nested(8), nested(8, C)))

    def test_names_in(self):
        self.told([], names_in, number(5))
        self.told(["a"], names_in, nested(8))
        self.told(["a", "b", "c"], names_in, plus(C, less(B, A)))
        self.told(["aa", "b", "zz"], names_in, plus(("name", "zz"), less(("name", "b"), ("name", "aa"))))
        self.refuses_terms(names_in)
        first = names_in(plus(A, B))
        first.append("c")
        self.told(["a", "b"], names_in, plus(A, B))


class Numbers(TermCase):
    def test_all(self):
        for kind in ALL_KINDS:
            for value in range(-9, 10):
                wanted = stands(kind, value)
                if wanted is None:
                    self.refused(Lacking, number_at, kind, value)
                else:
                    self.told(wanted, number_at, kind, value)
                self.told(wanted is None, lacks_term, kind, number(value))
                self.told(wanted is None, lacks_term, kind, plus(A, number(value)))

    def test_by_hand(self):
        for kind, value, wanted in ((WHOLE, -9, -9), (SHARE, 9, (9, 1)), (("root", 7), -2, ((-2, 1), (0, 1))),
                                    (("rest", 7), 9, 2), (("rest", 7), -9, 5), (("about", 1), -9, (-9, 0)),
                                    (("about", 3), 0, (0, 0)), (("sure", 2), 4, ((4, 1), (4, 1))), (OWN_SIX, -5, 1),
                                    (OWN_SIX, 8, 2), (OWN_FOUR, 2, 0), (OWN_FOUR, 3, 1), (OWN_FOUR, -1, 1),
                                    (OWN_NOUGHT, 0, 0), (OWN_ONE, 1, 0), (OWN_ONE, 2, 0), (OWN_OR, 5, 1),
                                    (OWN_LESS, 1, 0), (OWN_LESS, 2, 1), (OWN_LESS, 3, 0)):
            self.told(wanted, number_at, kind, value)

    def test_what_own_kinds_lack(self):
        for kind, values in ((OWN_BARE, (0, 1, 2, -1)), (OWN_OR, (-1, -2, -9)), (OWN_LESS, (0, -1, -5)),
                             (OWN_ONE, (0, -1)), (OWN_NOUGHT, (1, 2, 9, -1, -9))):
            for value in values:
                self.refused(Lacking, number_at, kind, value)
        for kind, values in ((OWN_OR, (0, 1, 2, 9)), (OWN_LESS, (1, 2, 9)), (OWN_ONE, (1, 2, 9)), (OWN_NOUGHT, (0,))):
            for value in values:
                self.told(False, lacks_term, kind, number(value))

    def test_refusals(self):
        self.refuses_no_kinds(number_at, (0,), (None,), (10,))
        for kind in ALL_KINDS:
            for value in (-10, 10, 11, 10 ** 60, -10 ** 60, True, False, None, "1", (1,)):
                self.refused(BadNumber, number_at, kind, value)
        self.refuses_others(BadNumber, number_at, lambda thing: whole(thing) and -9 <= thing <= 9, ahead=(OWN_BARE,))


class Lacks(TermCase):
    def test_all(self):
        terms = GOOD_TERMS + [less(A, B), less(number(1), A), plus(number(0), number(1)), times(A, number(-4))]
        for kind in ALL_KINDS:
            for term in terms:
                self.told(lacks_found(kind, term), lacks_term, kind, term)

    def test_by_hand(self):
        for kind in (OWN_OR, OWN_BARE, OWN_ONE):
            self.told(True, lacks_term, kind, less(A, B))
            self.told(True, lacks_term, kind, plus(A, times(B, less(A, A))))
            self.told(False, lacks_term, kind, plus(A, times(B, A)))
        for kind in (OWN_TWO, OWN_SIX, OWN_FOUR, OWN_NOUGHT, OWN_LESS):
            self.told(False, lacks_term, kind, less(A, B))
        for kind in PLAIN_KINDS:
            self.told(False, lacks_term, kind, less(number(-9), A))

    def test_refusals(self):
        self.refuses_no_kinds(lacks_term, (A,), (None,))
        for kind in (WHOLE, OWN_BARE):
            self.refuses_terms(lacks_term, (kind,))


class TermAt(TermCase):
    def test_all(self):
        for kind in ALL_KINDS:
            for term in GOOD_TERMS[:11]:
                if not lacks_found(kind, term):
                    worths = [worth_at(kind, place % 2 if kind[0] in ("rest", "own") else place) for place in (1, 2, 6)]
                    for chosen in product(worths, repeat=2):
                        handed = {"a": chosen[0], "b": chosen[1], "c": worths[-1], "abcdef": worths[0]}
                        self.told(told_found(kind, term, handed), term_at, kind, term, handed)
                else:
                    self.refused(Lacking, term_at, kind, term, dict.fromkeys(("a", "b", "c"), 0))

    def test_by_hand(self):
        term = plus(times(number(2), A), less(B, number(3)))
        for kind, one, other, wanted in ((WHOLE, 5, 7, 14), (SHARE, (1, 2), (1, 3), (-5, 3)), (("rest", 7), 5, 6, 6),
                                         (("root", 2), ((0, 1), (1, 1)), ((3, 1), (0, 1)), ((0, 1), (2, 1))),
                                         (("about", 1), (9, 0), (6, 0), (2, 1)),
                                         (("sure", 0), ((0, 1), (1, 1)), ((3, 1), (3, 1)), ((0, 1), (2, 1))),
                                         (OWN_SIX, 5, 4, 5), (OWN_FOUR, 2, 3, 2)):
            self.told(wanted, term_at, kind, term, {"a": one, "b": other})

    def test_other_names_in_the_dict(self):
        for other in THINGS:
            self.told(6, term_at, WHOLE, plus(A, number(1)), {"a": 5, "b": other, "zzzzzzz": None, 5: other, None: 1})
        self.told(4, term_at, WHOLE, number(4), {})
        self.told(4, term_at, WHOLE, number(4), {"a": None})

    def test_no_such_dicts(self):
        for kind in PLAIN_KINDS + (OWN_TWO, OWN_SIX):
            good = some_worths(kind)[0]
            for thing in THINGS:
                if not is_good(kind, thing):
                    self.refused(BadWorth, term_at, kind, plus(A, B), {"a": good, "b": thing})
                    self.refused(BadWorth, term_at, kind, plus(A, B), {"b": good, "a": thing})
            for thing in ({}, {"a": good}, {"b": good}, {"A": good, "b": good}, {("name", "a"): good}):
                self.refused(BadWorth, term_at, kind, plus(A, B), thing)
            for thing in THINGS + [[("a", good)], (("a", good),), [good]]:
                if type(thing) is not dict:
                    self.refused(BadWorth, term_at, kind, A, thing)
                    self.refused(BadWorth, term_at, kind, number(1), thing)

    def test_refusals_in_order(self):
        self.refuses_no_kinds(term_at, (A, {"a": 1}), (None, None), (less(A, A), {}))
        for kind in (WHOLE, OWN_BARE):
            self.refuses_terms(term_at, (kind,), behind=({"a": 0, "b": 0},))
            self.refuses_terms(term_at, (kind,), behind=(None,))
        self.refused(BadWorth, term_at, OWN_BARE, less(A, A), {})
        self.refused(BadWorth, term_at, OWN_BARE, less(A, A), {"a": 2})
        self.refused(Lacking, term_at, OWN_BARE, less(A, A), {"a": 1})
        self.refused(Lacking, term_at, OWN_BARE, number(1), {})
        for kind in OWNS:
            self.refused(BadKind, term_at, list(kind), less(A, A), {})

    def test_too_great(self):
        term = times(A, times(A, A))
        self.told(10 ** 300, term_at, WHOLE, term, {"a": 10 ** 100})
        self.refused(TooGreat, term_at, WHOLE, term, {"a": 10 ** 100 + 1})
        self.refused(TooGreat, term_at, WHOLE, less(plus(A, number(1)), A), {"a": 10 ** 300})
        self.refused(TooGreat, term_at, SHARE, term, {"a": (1, 10 ** 100 + 1)})
        self.refused(TooGreat, term_at, ("root", 2), term, {"a": ((10 ** 100, 1), (1, 1))})
        self.refused(TooGreat, term_at, ("sure", 0), term, {"a": ((0, 1), (10 ** 101, 1))})
        self.told((1, 300), term_at, ("about", 1), term, {"a": (1, 100)})
        self.refused(TooGreat, term_at, ("about", 1), term, {"a": (1, 150)})
        self.refused(BadWorth, term_at, WHOLE, term, {"a": None})

    def test_what_is_great_already_is_told(self):
        self.told(10 ** 301, term_at, WHOLE, A, {"a": 10 ** 301})
        self.refused(TooGreat, term_at, WHOLE, times(A, number(1)), {"a": 10 ** 301})
