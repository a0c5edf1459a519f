"""[71] VERDICTS of equations and [73] their REACH: towerwise.verdicts."""

from itertools import product
from time import perf_counter

from tests.termcase import (A, ALL_KINDS, B, BAD_TERMS, C, D, OWN_BARE, OWN_LESS, OWN_ONE, OWN_OR, OWNS, PLAIN_KINDS,
                            TermCase, lacks_found, less, nested, number, plus, times, told_found, wide)
from tests.test_polys import some_terms
from tests.things import OWN_SIX, OWN_TWO, THINGS
from tests.towercase import (A1, A2, BAD_TOWERS, EIGHT, GOOD_TOWERS, LINE, OWN_FOUR, OWN_THREE, RESTS, S0, SHARE, WHOLE,
                             steps)
from towerwise.errors import BadTerm, BadTower
from towerwise.polys import poly_of
from towerwise.terms import is_equation, names_in
from towerwise.verdicts import reach_of, verdict_of
from towerwise.worths import worth_at

RULED = ("whole", "share", "root")
NOUGHT, ONE = (0, 1), (1, 1)


def tried(kind):
    """List the worths that are tried, the first ones of those kinds that have no last one."""
    if kind[0] == "about":
        return [(0, 0), (1, 0), (-1, 0), (5, 0), (-5, 0), (1, kind[1]), (-1, kind[1])]
    if kind[0] == "sure":
        return [((low, 1), (high, 1)) for low, high in ((0, 0), (1, 1), (-1, -1), (0, 1), (-1, 1), (1, 2), (-2, 0))]
    if kind[0] in RULED:
        return [worth_at(kind, place) for place in range(4)]
    return list(range(kind[1] if kind[0] == "rest" else len(kind[1])))


def names_of(equation):
    """List, rising, the names of both sides."""
    return sorted({*names_in(equation[0]), *names_in(equation[1])})


def verdict_found(kind, equation):
    """Tell the VERDICT by one trial behind the other, None where a kind without a last worth has more to try."""
    if lacks_found(kind, equation[0]) or lacks_found(kind, equation[1]):
        return ("lacks",)
    names, worths = names_of(equation), tried(kind)
    trials = sorted(product(range(len(worths)), repeat=len(names)), key=lambda trial: (max(trial, default=0), trial))
    for trial in trials:
        chosen = {name: worths[place] for name, place in zip(names, trial)}
        if told_found(kind, equation[0], chosen) != told_found(kind, equation[1], chosen):
            return ("broken", tuple(chosen.items()))
    if kind[0] in RULED and names:
        return None
    return ("tried",) if kind[0] in ("about", "sure") else ("holds",)


def factors(name, values):
    """Make the product of a name less each of some values."""
    parts = [less(name, number(value)) if value else name for value in values]
    while len(parts) > 1:
        parts = [times(*parts[place:place + 2]) if place + 1 < len(parts) else parts[place]
                 for place in range(0, len(parts), 2)]
    return parts[0]


LAWS = [(plus(A, B), plus(B, A)), (times(A, B), times(B, A)), (plus(A, plus(B, C)), plus(plus(A, B), C)),
        (times(A, times(B, C)), times(times(A, B), C)), (times(A, plus(B, C)), plus(times(A, B), times(A, C))),
        (less(A, A), number(0)), (plus(A, number(0)), A), (times(A, number(1)), A), (less(plus(A, B), B), A),
        (times(plus(A, B), less(A, B)), less(times(A, A), times(B, B))), (plus(A, A), times(number(2), A)),
        (times(A, A), A), (plus(A, number(1)), A), (A, B), (number(2), number(0)), (number(5), number(5)),
        (plus(number(-3), number(3)), number(0)), (times(A, number(0)), number(0))]


class Verdicts(TermCase):
    def tells(self, kind, equation):
        """It tells the same as one trial behind the other."""
        wanted = verdict_found(kind, equation)
        if wanted is None:
            told = verdict_of(kind, equation)
            if told == ("holds",):
                self.assertEqual(poly_of(equation[0]), poly_of(equation[1]))
            else:
                self.assertEqual(told[0], "broken")
                self.breaks(kind, equation, told[1])
        else:
            self.told(wanted, verdict_of, kind, equation)

    def breaks(self, kind, equation, chosen):
        """These worths break it."""
        worths = dict(chosen)
        self.assertEqual(list(worths), names_of(equation))
        self.assertNotEqual(told_found(kind, equation[0], worths), told_found(kind, equation[1], worths))

    def test_laws(self):
        for kind in ALL_KINDS:
            for equation in LAWS:
                self.tells(kind, equation)

    def test_drawn_ones(self):
        terms = [term for term in some_terms(51, 400, 4) if len(names_in(term)) < 3]
        kinds = [kind for kind in ALL_KINDS if kind != ("rest", 12)]
        for place, equation in enumerate(zip(terms[::2], terms[1::2])):
            if is_equation(equation):
                self.tells(kinds[place % len(kinds)], equation)
                self.tells(kinds[place * 7 % len(kinds)], (plus(equation[0], equation[1]), plus(*equation[::-1])))

    def test_three_names(self):
        for kind in (("rest", 2), ("rest", 7), A1, S0, OWN_FOUR, OWN_OR, SHARE):
            for equation in ((times(A, plus(B, C)), plus(times(A, B), times(A, C))), (times(A, times(B, C)), number(0)),
                             (plus(A, plus(B, C)), plus(plus(C, A), B)), (times(A, B), C)):
                self.tells(kind, equation)

    def test_by_hand(self):
        for kind, equation, wanted in (
                (WHOLE, (times(A, A), A), ("broken", (("a", -1),))), (WHOLE, (A, B), ("broken", (("a", 0), ("b", 1)))),
                (SHARE, (times(A, A), A), ("broken", (("a", (-1, 1)),))),
                (("root", 3), (times(A, A), A), ("broken", (("a", (NOUGHT, ONE)),))),
                (("rest", 2), (times(A, A), A), ("holds",)), (("rest", 6), (times(A, times(A, A)), A), ("holds",)),
                (("rest", 4), (times(A, times(A, A)), A), ("broken", (("a", 2),))),
                (("rest", 7), (times(A, B), number(0)), ("broken", (("a", 1), ("b", 1)))),
                (A1, (plus(A, B), plus(B, A)), ("tried",)),
                # One and ten are ten again, to one figure; ten less one is nine.
                (A1, (plus(A, plus(B, C)), plus(plus(A, B), C)),
                 ("broken", (("a", (1, 0)), ("b", (1, 1)), ("c", (-1, 0))))),
                (S0, (less(A, A), number(0)), ("broken", (("a", (NOUGHT, ONE)),))),
                (S0, (plus(A, B), plus(B, A)), ("tried",)), (OWN_BARE, (less(A, A), number(0)), ("lacks",)),
                (OWN_TWO, (plus(A, A), number(0)), ("holds",)), (OWN_OR, (plus(A, A), A), ("holds",)),
                (OWN_OR, (number(2), number(1)), ("holds",)), (OWN_FOUR, (times(A, A), A), ("broken", (("a", 2),)))):
            with self.subTest(kind=kind, equation=equation):
                self.told(verdict_found(kind, equation) or wanted, verdict_of, kind, equation)
                self.told(wanted, verdict_of, kind, equation)

    def test_the_first_trial_by_the_greatest_place_then_the_least_tuple(self):
        self.told(("broken", (("a", 1), ("b", 1))), verdict_of, WHOLE, (times(A, B), number(0)))
        self.told(("broken", (("a", 0), ("b", 1))), verdict_of, WHOLE, (times(A, A), times(B, B)))
        self.told(("broken", (("a", 1), ("b", 0))), verdict_of, WHOLE, (times(A, less(number(1), B)), number(0)))
        # Place 2 is -1: (0, -1) and (1, -1) stand ahead of (-1, 0).
        self.told(("broken", (("a", -1), ("b", 0))), verdict_of, WHOLE,
                  (times(times(A, less(A, number(1))), plus(B, number(1))), number(0)))
        self.told(("broken", (("b", 1), ("zz", 0))), verdict_of, WHOLE,
                  (times(B, less(number(1), ("name", "zz"))), number(0)))
        self.told(("broken", (("a", 2), ("b", 1), ("c", 0))), verdict_of, ("rest", 5), (
            times(times(A, less(A, number(1))), times(less(number(1), C), B)), number(0)))

    def test_no_names(self):
        for kind in ALL_KINDS:
            for equation in ((number(5), number(5)), (number(5), number(-2)), (plus(number(2), number(2)), number(4)),
                             (times(number(9), number(9)), number(9)), (number(0), number(0))):
                self.tells(kind, equation)
        self.told(("broken", ()), verdict_of, WHOLE, (number(1), number(2)))
        self.told(("holds",), verdict_of, ("rest", 7), (number(9), number(2)))
        self.told(("tried",), verdict_of, A1, (times(number(3), number(4)), plus(number(9), number(1))))

    def test_the_seven_worths_of_about_and_sure_kinds(self):
        for kind in (A1, A2, ("about", 3), S0, ("sure", 6)):
            self.assertEqual(len(set(tried(kind))), 7)
            for equation in ((times(A, A), A), (times(A, times(A, A)), A), (plus(A, number(5)), A), (A, B)):
                self.tells(kind, equation)
        self.told(("broken", (("a", (5, 0)),)), verdict_of, A2, (times(A, times(A, A)), A))
        far = times(factors(A, (0, 1, -1)), factors(A, (5, -5)))
        self.told(("broken", (("a", (1, 1)),)), verdict_of, A1, (far, number(0)))
        self.told(("broken", (("a", (1, 3)),)), verdict_of, ("about", 3), (far, number(0)))
        self.told(("broken", (("a", (NOUGHT, ONE)),)), verdict_of, S0, (factors(A, (0, 1, -1)), number(0)))

    def test_each_of_the_sure_bounds_tried(self):
        more, apart = plus(A, number(1)), less(A, A)
        square = plus(plus(times(A, A), times(number(2), A)), number(1))
        for kind in (S0, ("sure", 3)):
            for equation, low, high in (((A, plus(A, number(1))), 0, 0), ((plus(A, A), A), 1, 1),
                                        ((times(A, A), A), -1, -1), ((apart, number(0)), 0, 1),
                                        ((times(more, more), square), -1, 1), ((apart, times(apart, A)), 1, 2),
                                        ((times(A, times(A, A)), A), 1, 2),
                                        ((times(more, A), plus(times(A, A), A)), -2, 0)):
                self.tells(kind, equation)
                self.told(("broken", (("a", ((low, 1), (high, 1))),)), verdict_of, kind, equation)

    def test_lacks_goes_ahead_of_all_else(self):
        for equation in ((less(A, A), number(0)), (A, less(A, B)), (number(-1), A), (less(A, B), less(B, A))):
            self.told(("lacks",), verdict_of, OWN_OR, equation)
            self.told(("lacks",), verdict_of, OWN_BARE, equation)
        self.told(("lacks",), verdict_of, OWN_ONE, (number(0), number(0)))
        self.told(("lacks",), verdict_of, OWN_LESS, (plus(A, number(0)), A))
        self.told(("lacks",), verdict_of, OWN_THREE, (plus(A, B), times(A, number(1))))
        self.told(("lacks",), verdict_of, OWN_BARE, (A, number(1)))

    def test_broken_only_far_on(self):
        values = (0, 1, -1, 2, -2, 3, -3, 4)
        for many in range(1, 9):
            equation = (factors(A, values[:many]), number(0))
            wanted = values[many] if many < 8 else -4
            self.told(("broken", (("a", wanted),)), verdict_of, WHOLE, equation)
            self.breaks(SHARE, equation, verdict_of(SHARE, equation)[1])
        self.told(("broken", (("a", (1, 2)),)), verdict_of, SHARE, (factors(A, values[:5]), number(0)))
        # The first places of a root are 0, the root, 1, 1 and the root: three of them are noughts here.
        self.told(("broken", (("a", (ONE, ONE)),)), verdict_of, ("root", 2), (
            times(less(times(A, A), number(2)), factors(A, (0, 1))), number(0)))
        both = (times(factors(A, (0, 1, -1)), factors(B, (0, 1, -1))), number(0))
        self.told(("broken", (("a", 2), ("b", 2))), verdict_of, WHOLE, both)
        three = (times(both[0], factors(C, (0, 1, -1))), number(0))
        self.told(("broken", (("a", 2), ("b", 2), ("c", 2))), verdict_of, WHOLE, three)
        self.told(("broken", (("a", (2, 1)), ("b", (2, 1)), ("c", (2, 1)))), verdict_of, SHARE, three)
        one = times(times(factors(A, (1, -1, 2, -2, 3, -3)), A), B)
        self.told(("broken", (("a", 4), ("b", 1))), verdict_of, WHOLE, (one, times(B, number(0))))

    def test_told_the_same_up_to_some_place(self):
        same = plus(A, factors(A, (0, 1, -1, 2, -2)))
        self.told(("broken", (("a", 3),)), verdict_of, WHOLE, (same, A))
        self.told(("holds",), verdict_of, ("rest", 5), (same, A))
        self.told(("broken", (("a", 3),)), verdict_of, ("rest", 7), (same, A))
        self.told(("holds",), verdict_of, WHOLE, (plus(same, B), plus(B, same)))

    def test_whole_share_and_root_by_the_poly(self):
        for term in some_terms(52, 60, 5, "ab"):
            turned = plus(number(0), term)
            if is_equation((term, turned)):
                for kind in (WHOLE, SHARE, ("root", 7), ("rest", 10)):
                    self.told(("holds",), verdict_of, kind, (term, turned))
                    broken = verdict_of(kind, (term, plus(number(1), term)))[0] if is_equation(
                        (term, plus(number(1), term))) else "broken"
                    self.assertEqual(broken, "broken")

    def test_each_in_good_time(self):
        fifth = plus(A, plus(B, C))
        power = times(times(fifth, fifth), times(fifth, times(fifth, fifth)))
        turned = plus(B, plus(C, A))
        equations = [(power, times(times(turned, turned), times(turned, times(turned, turned)))),
                     (times(factors(A, (0, 1, -1)), times(factors(B, (0, 1, -1)), factors(C, (0, 1, -1)))), number(0)),
                     (times(factors(A, (0, 1, -1, 2, -2, 3, -3)), times(B, C)), times(A, number(0))),
                     (wide(29), wide(29, B)), (nested(8), nested(8, C)), LAWS[3], LAWS[4]]
        for equation in equations:
            self.assertTrue(is_equation(equation))
            for kind in ALL_KINDS + (("rest", 11),):
                start = perf_counter()
                verdict_of(kind, equation)
                self.assertLess(perf_counter() - start, 0.5, (kind, equation))

    def test_refusals(self):
        self.refuses_no_kinds(verdict_of, ((A, B),), (None,))
        for kind in (WHOLE, OWN_BARE):
            for term in BAD_TERMS:
                self.refused(BadTerm, verdict_of, kind, (term, A))
                self.refused(BadTerm, verdict_of, kind, (A, term))
            for thing in THINGS + [A, (A,), (A, B, C), [A, B], (plus(A, B), plus(C, D)), ("plus", A, B), {A: B}]:
                self.refused(BadTerm, verdict_of, kind, thing)
        self.assertEqual(len(PLAIN_KINDS) + len(OWNS), len(ALL_KINDS))


class Reach(TermCase):
    def test_all(self):
        for tower in GOOD_TOWERS:
            for equation in LAWS:
                words = tuple(verdict_of(kind, equation)[0] for kind in tower[0])
                good = [word in ("holds", "tried") for word in words]
                reach = "all" if all(good) else "some" if any(good) else "no"
                self.told((reach, words), reach_of, tower, equation)

    def test_by_hand(self):
        self.told(("all", ("holds", "holds", "holds", "tried")), reach_of, LINE, LAWS[0])
        self.told(("no", ("broken",) * 4), reach_of, LINE, (A, B))
        self.told(("some", ("holds", "holds", "holds", "broken")), reach_of, LINE, (less(A, A), number(0)))
        self.told(("some", ("broken", "broken", "broken", "broken", "holds", "holds")), reach_of, RESTS,
                  (times(A, A), A))
        self.told(("some", ("holds", "lacks")), reach_of, ((OWN_SIX, OWN_BARE), ()), (less(A, A), number(0)))
        self.told(("no", ("lacks",)), reach_of, ((OWN_BARE,), ()), (less(A, A), number(0)))
        self.told(("all", ("tried", "tried")), reach_of, ((A1, S0), steps((0, 1))), LAWS[0])

    def test_refusals(self):
        for place, tower in BAD_TOWERS:
            for equation in ((A, B), None):
                self.refused_with(BadTower, {"place": place}, reach_of, tower, equation)
        for thing in THINGS:
            self.refused(BadTower, reach_of, thing, (A, B))
            self.refused(BadTerm, reach_of, EIGHT, thing)
            self.refused(BadTerm, reach_of, EIGHT, (A, thing))
        for term in BAD_TERMS:
            self.refused(BadTerm, reach_of, LINE, (term, A))
        self.refused(BadTerm, reach_of, LINE, (plus(A, B), plus(C, D)))
