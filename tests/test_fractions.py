"""[1] FRACTIONS: towerwise.fractions."""

from fractions import Fraction
from math import gcd

from tests.things import Case, THINGS, whole
from towerwise.errors import BadNumber, ByNought
from towerwise.fractions import (difference_of, fraction, is_fraction, is_great, is_less, product_of, quotient_of,
                                 sum_of, ten_to)

SMALL = sorted({Fraction(above, below) for above in range(-7, 8) for below in range(1, 7)})
LARGE = [Fraction(10 ** 60, 1), Fraction(-10 ** 60, 3), Fraction(1, 10 ** 60), Fraction(10 ** 300, 10 ** 299 + 1),
         Fraction(-7 ** 70, 3 ** 120), Fraction(2 ** 900, 3 ** 600)]


def told_as(number):
    """Tell a Fraction of Python's as a FRACTION."""
    return (number.numerator, number.denominator)


class IsFraction(Case):
    def test_small_pairs(self):
        for above in range(-13, 14):
            for below in range(-13, 14):
                self.told(below > 0 and gcd(above, below) == 1, is_fraction, (above, below))

    def test_nought_is_told_over_one(self):
        self.told(True, is_fraction, (0, 1))
        for below in (0, 2, -1, 7, 10 ** 60):
            self.told(False, is_fraction, (0, below))

    def test_many_figures(self):
        self.told(True, is_fraction, (10 ** 60, 10 ** 60 + 1))
        self.told(True, is_fraction, (-3 ** 600, 2 ** 900))
        self.told(True, is_fraction, (10 ** 301, 1))
        self.told(False, is_fraction, (3 ** 600, 3 * 2 ** 900))
        self.told(False, is_fraction, (10 ** 3998, 10 ** 3999))
        self.told(True, is_fraction, (10 ** 3999, 10 ** 3999 - 1))

    def test_true_is_no_number(self):
        for thing in ((True, 1), (1, True), (True, True), (False, 1), (3, True)):
            self.told(False, is_fraction, thing)

    def test_other_shapes(self):
        for thing in ([1, 2], (1, 2, 3), (1,), (), 1, "1/2", ("1", "2"), ([1], 2), (1, [2]), (1, None), (None, 1),
                      {1: 2}, {1, 2}, b"12", ((1, 2), 1), range(1, 3)):
            self.told(False, is_fraction, thing)

    def test_all_other_things(self):
        good = ((0, 1), (1, 1))
        for thing in THINGS:
            if type(thing) is tuple and len(thing) == 2 and whole(thing[0]) and whole(thing[1]):
                self.told(thing in good, is_fraction, thing)
            else:
                self.told(False, is_fraction, thing)


class OfTwoNumbers(Case):
    def test_small_ones_of_any_sign(self):
        for above in range(-24, 25):
            for below in range(-24, 25):
                if below != 0:
                    self.told(told_as(Fraction(above, below)), fraction, above, below)

    def test_many_figures(self):
        for above, below in ((10 ** 60, 10 ** 59), (6 ** 200, 4 ** 300), (-6 ** 200, 9 ** 150), (7 ** 500, -7 ** 499),
                             (10 ** 3999, -10 ** 3998), (0, -10 ** 900), (-2 ** 2000, -3 ** 1000)):
            self.told(told_as(Fraction(above, below)), fraction, above, below)

    def test_below_nought(self):
        for above in (0, 1, -1, 10 ** 60):
            self.refused(BadNumber, fraction, above, 0)

    def test_no_whole_numbers(self):
        self.refuses_others(BadNumber, fraction, whole, behind=(1,))
        self.refuses_others(BadNumber, fraction, whole, ahead=(1,))
        self.refuses_others(BadNumber, fraction, whole, behind=(0,))
        self.refused(BadNumber, fraction, True, True)
        self.refused(BadNumber, fraction, 1, False)


class Deeds(Case):
    def test_sums_and_the_like_of_all_small_ones(self):
        for one in SMALL:
            for other in SMALL:
                pair = (told_as(one), told_as(other))
                self.told(told_as(one + other), sum_of, *pair)
                self.told(told_as(one - other), difference_of, *pair)
                self.told(told_as(one * other), product_of, *pair)
                self.told(one < other, is_less, *pair)

    def test_quotients_of_all_small_ones(self):
        for one in SMALL:
            for other in SMALL:
                if other == 0:
                    self.refused(ByNought, quotient_of, told_as(one), (0, 1))
                else:
                    self.told(told_as(one / other), quotient_of, told_as(one), told_as(other))

    def test_large_ones(self):
        for one in LARGE + SMALL[::7]:
            for other in LARGE:
                pair = (told_as(one), told_as(other))
                self.told(told_as(one + other), sum_of, *pair)
                self.told(told_as(one - other), difference_of, *pair)
                self.told(told_as(one * other), product_of, *pair)
                self.told(told_as(one / other), quotient_of, *pair)
                self.told(one < other, is_less, *pair)

    def test_no_deed_refuses_what_is_too_great(self):
        great = (10 ** 300, 1)
        self.told((2 * 10 ** 300, 1), sum_of, great, great)
        self.told((10 ** 300 + 1, 1), difference_of, great, (-1, 1))
        self.told((10 ** 600, 1), product_of, great, great)
        self.told((1, 10 ** 600), quotient_of, (1, 10 ** 300), great)

    def test_nought_over_something_is_told_shortest(self):
        self.told((0, 1), quotient_of, (0, 1), (-5, 7))
        self.told((0, 1), product_of, (0, 1), (-5, 7))
        self.told((0, 1), difference_of, (5, 7), (5, 7))


class IsLess(Case):
    def test_very_near_ones(self):
        many = 10 ** 60
        self.told(True, is_less, (many - 1, many), (many, many + 1))
        self.told(False, is_less, (many, many + 1), (many - 1, many))
        self.told(True, is_less, (-many, many + 1), (1 - many, many))
        self.told(False, is_less, (many, many + 1), (many, many + 1))


class TenTo(Case):
    def test_each_power(self):
        for many in list(range(1100)) + [1279, 1280, 3999, 4000, 5000]:
            self.told(10 ** many, ten_to, many)


class IsGreat(Case):
    def test_just_at_the_bound_and_beyond(self):
        bound = 10 ** 300
        for above, wanted in ((bound, False), (bound + 1, True), (-bound, False), (-bound - 1, True),
                              (bound - 1, False), (1 - bound, False), (10 ** 301, True), (-10 ** 301, True)):
            self.told(wanted, is_great, (above, 1))
        for below, wanted in ((bound, False), (bound + 1, True), (bound - 1, False), (10 ** 301, True)):
            self.told(wanted, is_great, (1, below))
            self.told(wanted, is_great, (-1, below))

    def test_both_parts(self):
        bound = 10 ** 300
        self.told(False, is_great, (bound, bound - 1))
        self.told(False, is_great, (-bound, bound - 1))
        self.told(True, is_great, (bound + 1, bound))
        self.told(True, is_great, (bound, bound + 1))
        self.told(True, is_great, (-bound - 2, bound + 1))

    def test_small_ones(self):
        for number in SMALL:
            self.told(False, is_great, told_as(number))
