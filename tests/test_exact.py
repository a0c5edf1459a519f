"""[10] to [13] of whole numbers, shares and rests: towerwise.exact."""

from fractions import Fraction

from tests.deedcase import DEEDS, DeedCase
from tests.test_worths import is_share
from tests.things import whole
from towerwise.errors import BadKind, BadWorth, ByNought, NoDeed, TooGreat
from towerwise.exact import exact_deed, exact_order

WHOLE, SHARE = ("whole",), ("share",)
BOUND = 10 ** 300
PRIMES = (2, 3, 5, 7, 11)
NUMBERS = list(range(-9, 10)) + [10 ** 60, -10 ** 60, 10 ** 60 - 1, 123456789, -987654321]
SHARES = sorted({Fraction(above, below) for above in range(-4, 5) for below in range(1, 5)}) + [
    Fraction(10 ** 60, 7), Fraction(-7, 10 ** 60), Fraction(10 ** 60, 10 ** 60 - 1), Fraction(-10 ** 60)]


def told_as(number):
    """Tell a Fraction of Python's as a FRACTION."""
    return (number.numerator, number.denominator)


def order(one, other):
    """Tell -1, 0 or 1 by Python's own order."""
    return (one > other) - (one < other)


class Whole(DeedCase):
    def test_small_and_large_ones(self):
        for one in NUMBERS:
            for other in NUMBERS:
                self.told(one + other, exact_deed, WHOLE, "plus", one, other)
                self.told(one - other, exact_deed, WHOLE, "less", one, other)
                self.told(one * other, exact_deed, WHOLE, "times", one, other)
                self.told(order(one, other), exact_order, WHOLE, one, other)

    def test_there_is_no_over(self):
        for one in (0, 1, 6, -6):
            for other in (0, 1, 2, 3, -1):
                self.refused(NoDeed, exact_deed, WHOLE, "over", one, other)

    def test_just_at_the_bound_and_beyond(self):
        for deed, one, other in (("plus", BOUND - 1, 1), ("plus", 1 - BOUND, -1), ("less", BOUND - 1, -1),
                                 ("less", 1 - BOUND, 1), ("times", 10 ** 150, 10 ** 150),
                                 ("times", -10 ** 150, 10 ** 150), ("plus", BOUND, 0), ("less", BOUND + 5, 5)):
            wanted = {"plus": one + other, "less": one - other, "times": one * other}[deed]
            self.assertEqual(abs(wanted), BOUND)
            self.told(wanted, exact_deed, WHOLE, deed, one, other)
        for deed, one, other in (("plus", BOUND, 1), ("plus", -BOUND, -1), ("less", BOUND, -1), ("less", -BOUND, 1),
                                 ("times", 10 ** 150, 10 ** 150 + 1), ("times", -10 ** 150, 10 ** 150 + 1),
                                 ("times", BOUND, BOUND), ("plus", BOUND, BOUND)):
            self.refused(TooGreat, exact_deed, WHOLE, deed, one, other)

    def test_greater_ones_handed_in_are_done(self):
        self.told(0, exact_deed, WHOLE, "less", BOUND + 1, BOUND + 1)
        self.told(0, exact_deed, WHOLE, "times", BOUND + 1, 0)
        self.told(1, exact_order, WHOLE, BOUND + 1, BOUND)
        self.told(-1, exact_order, WHOLE, -BOUND - 1, -BOUND)


class Shares(DeedCase):
    def test_small_and_large_ones(self):
        for one in SHARES:
            for other in SHARES:
                pair = (told_as(one), told_as(other))
                self.told(told_as(one + other), exact_deed, SHARE, "plus", *pair)
                self.told(told_as(one - other), exact_deed, SHARE, "less", *pair)
                self.told(told_as(one * other), exact_deed, SHARE, "times", *pair)
                self.told(order(one, other), exact_order, SHARE, *pair)
                if other == 0:
                    self.refused(ByNought, exact_deed, SHARE, "over", *pair)
                else:
                    self.told(told_as(one / other), exact_deed, SHARE, "over", *pair)

    def test_just_at_the_bound_and_beyond_above(self):
        half = 10 ** 150
        for deed, one, other, wanted in (
                ("times", (half, 1), (half, 1), (BOUND, 1)), ("times", (-half, 1), (half, 1), (-BOUND, 1)),
                ("over", (half, 1), (1, half), (BOUND, 1)), ("over", (-half, 1), (1, half), (-BOUND, 1)),
                ("plus", (BOUND - 1, 1), (1, 1), (BOUND, 1)), ("less", (1 - BOUND, 1), (1, 1), (-BOUND, 1))):
            self.told(wanted, exact_deed, SHARE, deed, one, other)
        for deed, one, other in (
                ("times", (half, 1), (half + 1, 1)), ("times", (-half, 1), (half + 1, 1)),
                ("over", (half, 1), (1, half + 1)), ("over", (-half, 1), (1, half + 1)),
                ("plus", (BOUND, 1), (1, 1)), ("less", (-BOUND, 1), (1, 1)), ("plus", (BOUND, 3), (1, 3)),
                ("plus", (BOUND, 1), (1, 2))):
            self.refused(TooGreat, exact_deed, SHARE, deed, one, other)

    def test_just_at_the_bound_and_beyond_below(self):
        half = 10 ** 150
        for deed, one, other, wanted in (
                ("times", (1, half), (1, half), (1, BOUND)), ("times", (-1, half), (1, half), (-1, BOUND)),
                ("over", (1, half), (half, 1), (1, BOUND)), ("over", (3, half), (-half, 1), (-3, BOUND)),
                ("plus", (1, BOUND), (1, BOUND // 2), (3, BOUND)), ("less", (1, BOUND), (1, BOUND // 2), (-1, BOUND))):
            self.told(wanted, exact_deed, SHARE, deed, one, other)
        for deed, one, other in (
                ("times", (1, half), (1, half + 1)), ("times", (-1, half), (1, half + 1)),
                ("over", (1, half), (half + 1, 1)), ("plus", (1, BOUND), (1, 3)), ("less", (1, BOUND), (1, 7))):
            self.refused(TooGreat, exact_deed, SHARE, deed, one, other)

    def test_told_shortest_is_what_counts(self):
        self.told((1, 1), exact_deed, SHARE, "over", (BOUND, 7), (BOUND, 7))
        self.told((0, 1), exact_deed, SHARE, "less", (7, BOUND), (7, BOUND))
        self.told((1, 1), exact_deed, SHARE, "times", (BOUND, BOUND - 1), (BOUND - 1, BOUND))
        self.told((1, 5 * 10 ** 299), exact_deed, SHARE, "plus", (1, BOUND), (1, BOUND))

    def test_order_of_near_and_of_great_ones(self):
        self.told(-1, exact_order, SHARE, (BOUND - 1, BOUND), (BOUND, BOUND + 1))
        self.told(1, exact_order, SHARE, (BOUND, BOUND + 1), (BOUND - 1, BOUND))
        self.told(1, exact_order, SHARE, (1 - BOUND, BOUND), (-BOUND, BOUND + 1))
        self.told(0, exact_order, SHARE, (BOUND, BOUND + 1), (BOUND, BOUND + 1))


class Rests(DeedCase):
    def test_all_pairs(self):
        for many in range(2, 13):
            kind = ("rest", many)
            for one in range(many):
                for other in range(many):
                    self.told((one + other) % many, exact_deed, kind, "plus", one, other)
                    self.told((one - other) % many, exact_deed, kind, "less", one, other)
                    self.told((one * other) % many, exact_deed, kind, "times", one, other)

    def test_over_where_it_is_a_prime(self):
        for many in PRIMES:
            for one in range(many):
                self.refused(ByNought, exact_deed, ("rest", many), "over", one, 0)
                for other in range(1, many):
                    wanted = [worth for worth in range(many) if worth * other % many == one]
                    self.assertEqual(len(wanted), 1)
                    self.told(wanted[0], exact_deed, ("rest", many), "over", one, other)

    def test_no_over_where_it_is_none(self):
        for many in (4, 6, 8, 9, 10, 12):
            for one in range(many):
                for other in range(many):
                    self.refused(NoDeed, exact_deed, ("rest", many), "over", one, other)

    def test_rests_have_no_order(self):
        for many in range(2, 13):
            self.refused(BadKind, exact_order, ("rest", many), 0, 1)
            self.refused(BadKind, exact_order, ("rest", many), None, 1)


class Refusals(DeedCase):
    def test_other_kinds(self):
        self.refuses_kinds(exact_deed, ("whole", "share", "rest"),
                           [("plus", 1, 1), ("foo", None, None), ("over", 1, 0), ("plus", (1, 1), (1, 1))])
        self.refuses_kinds(exact_order, ("whole", "share"), [(1, 1), (None, None), ((1, 1), (1, 1)), (0, 1)])

    def test_whole(self):
        self.refuses_deeds(exact_deed, WHOLE, 1, whole)
        self.refuses_worths(exact_order, WHOLE, 1, whole)

    def test_share(self):
        self.refuses_deeds(exact_deed, SHARE, (1, 2), is_share)
        self.refuses_worths(exact_order, SHARE, (1, 2), is_share)

    def test_rest(self):
        for many in (5, 6):
            self.refuses_deeds(exact_deed, ("rest", many), 1, lambda thing: whole(thing) and 0 <= thing < many)
            for deed in DEEDS:
                for worth in (many, -1, True, False, (1, 1)):
                    self.refused(BadWorth, exact_deed, ("rest", many), deed, worth, 0)
                    self.refused(BadWorth, exact_deed, ("rest", many), deed, 0, worth)

    def test_no_deed_ahead_of_by_nought_and_too_great(self):
        self.refused(NoDeed, exact_deed, SHARE, "by", (1, 1), (0, 1))
        self.refused(NoDeed, exact_deed, SHARE, None, (BOUND, 1), (BOUND, 1))
        self.refused(NoDeed, exact_deed, WHOLE, "over", 1, 0)
        self.refused(NoDeed, exact_deed, WHOLE, "over", BOUND, 1)
        self.refused(NoDeed, exact_deed, ("rest", 6), "over", 1, 0)

    def test_by_nought_ahead_of_too_great(self):
        self.refused(ByNought, exact_deed, SHARE, "over", (BOUND + 1, 1), (0, 1))
        self.refused(ByNought, exact_deed, SHARE, "over", (0, 1), (0, 1))

    def test_bad_worth_ahead_of_the_rest(self):
        self.refused(BadWorth, exact_deed, WHOLE, "over", 1, None)
        self.refused(BadWorth, exact_deed, SHARE, "over", (2, 4), (0, 1))
        self.refused(BadWorth, exact_deed, ("rest", 6), "over", 6, 0)
