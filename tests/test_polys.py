"""[72] POLYS: towerwise.polys."""

from itertools import product
from random import Random

from tests.termcase import A, B, C, TermCase, less, nested, number, plus, times, told_found, wide
from towerwise.polys import poly_of
from towerwise.terms import is_term

WHOLE = ("whole",)


def drawn_term(draw, deep, names="abc"):
    """Draw a term of some parts, at most so deep."""
    if deep == 1 or draw.random() < 0.25:
        return ("name", draw.choice(names)) if draw.random() < 0.6 else number(draw.randrange(-9, 10))
    deed = draw.choice(("plus", "less", "times"))
    return (deed, drawn_term(draw, deep - 1, names), drawn_term(draw, deep - 1, names))


def some_terms(seed, count, deep=5, names="abc"):
    """List some drawn terms."""
    draw, found = Random(seed), []
    while len(found) < count:
        term = drawn_term(draw, deep, names)
        if is_term(term):
            found.append(term)
    return found


def told_by(poly, worths):
    """Tell what a POLY tells by whole numbers."""
    total = 0
    for powers, many in poly:
        for name, how in powers:
            many *= worths[name] ** how
        total += many
    return total


class Polys(TermCase):
    def test_by_hand(self):
        for term, wanted in (
                (number(0), ()), (number(-7), (((), -7),)), (A, (((("a", 1),), 1),)),
                (plus(A, A), (((("a", 1),), 2),)), (less(A, A), ()), (times(A, A), (((("a", 2),), 1),)),
                (times(number(0), A), ()), (times(B, A), (((("a", 1), ("b", 1)), 1),)),
                (times(plus(A, B), less(A, B)), (((("a", 2),), 1), ((("b", 2),), -1))),
                (times(plus(A, number(1)), plus(A, number(1))), (((), 1), ((("a", 1),), 2), ((("a", 2),), 1))),
                (less(times(A, plus(B, C)), times(C, A)), (((("a", 1), ("b", 1)), 1),)),
                (less(number(3), plus(number(2), number(1))), ())):
            self.told(wanted, poly_of, term)

    def test_the_order_of_the_pairs(self):
        term = plus(plus(times(A, times(A, A)), times(A, B)), plus(plus(B, times(A, A)), plus(number(5), C)))
        self.told((((), 5), ((("a", 1), ("b", 1)), 1), ((("a", 2),), 1), ((("a", 3),), 1), ((("b", 1),), 1),
                   ((("c", 1),), 1)), poly_of, term)
        self.told((((("aa", 1), ("b", 1)), 1), ((("b", 1),), 1)), poly_of,
                  plus(("name", "b"), times(("name", "b"), ("name", "aa"))))

    def test_powers_are_put_together(self):
        self.told((((("a", 15),), 1),), poly_of, wide(29))
        self.told((((("a", 1),), 8),), poly_of, nested(8))
        self.told((((("a", 2), ("b", 1), ("c", 2)), -4),), poly_of,
                  times(times(times(C, number(2)), times(A, B)), times(times(A, number(-2)), C)))

    def test_what_comes_to_nought_is_left_out(self):
        square = times(less(A, B), less(A, B))
        self.told((((("a", 2),), 1), ((("b", 2),), 1)), poly_of, plus(square, times(number(2), times(A, B))))
        self.told((), poly_of, times(less(A, A), plus(B, C)))

    def test_it_tells_what_the_term_tells(self):
        for term in some_terms(41, 300):
            poly = poly_of(term)
            self.assertEqual(poly, tuple(sorted(poly)))
            for powers, many in poly:
                self.assertNotEqual(many, 0)
                self.assertEqual(powers, tuple(sorted(powers)))
                self.assertTrue(all(how >= 1 for _, how in powers))
                self.assertEqual(len({name for name, _ in powers}), len(powers))
            self.assertEqual(len({powers for powers, _ in poly}), len(poly))
            for chosen in product((0, 1, -2, 13), repeat=3):
                worths = dict(zip("abc", chosen))
                self.assertEqual(told_by(poly, worths), told_found(WHOLE, term, worths))
            self.told(poly, poly_of, term)

    def test_refusals(self):
        self.refuses_terms(poly_of)
