"""[10], [12], [13] of numbers with a root: towerwise.roots."""

from fractions import Fraction
from math import isqrt

from tests.deedcase import DeedCase
from tests.test_worths import is_share
from towerwise.errors import BadWorth, ByNought, NoDeed, TooGreat
from towerwise.roots import root_deed, root_norm, root_order, root_sign, turned_root

ROOTS = (2, 3, 5, 6, 30, 59)
NOUGHT, ONE = (0, 1), (1, 1)
BOUND = 10 ** 300
HALF = 10 ** 150
PARTS = [Fraction(0), Fraction(1), Fraction(-1), Fraction(2, 3), Fraction(-7, 4), Fraction(10 ** 60, 9)]
WORTHS = [(one, other) for one in PARTS for other in PARTS]


def told_as(worth):
    """Tell a pair of Python's Fractions as a worth."""
    return tuple((part.numerator, part.denominator) for part in worth)


def is_root_worth(thing):
    """Tell which things are worths of a root."""
    return type(thing) is tuple and len(thing) == 2 and is_share(thing[0]) and is_share(thing[1])


def times(root, one, other):
    """Multiply two worths."""
    return (one[0] * other[0] + root * one[1] * other[1], one[0] * other[1] + one[1] * other[0])


def near(root, many):
    """Tell the nearest fractions below and above a root, over ten to many."""
    low = isqrt(root * 10 ** (2 * many))
    return Fraction(low, 10 ** many), Fraction(low + 1, 10 ** many)


class Deeds(DeedCase):
    def test_plus_less_and_times(self):
        for root in ROOTS:
            kind = ("root", root)
            for one in WORTHS:
                for other in WORTHS:
                    pair = (told_as(one), told_as(other))
                    self.told(told_as((one[0] + other[0], one[1] + other[1])), root_deed, kind, "plus", *pair)
                    self.told(told_as((one[0] - other[0], one[1] - other[1])), root_deed, kind, "less", *pair)
                    self.told(told_as(times(root, one, other)), root_deed, kind, "times", *pair)

    def test_over(self):
        for root in ROOTS:
            kind = ("root", root)
            for one in WORTHS:
                for other in WORTHS:
                    if other == (0, 0):
                        self.refused(ByNought, root_deed, kind, "over", told_as(one), (NOUGHT, NOUGHT))
                    else:
                        # What is told is looked for by times alone: it is w where w times other is one.
                        told = root_deed(kind, "over", told_as(one), told_as(other))
                        back = (Fraction(*told[0]), Fraction(*told[1]))
                        self.assertEqual(times(root, back, other), one)
                        self.told(told_as(back), root_deed, kind, "over", told_as(one), told_as(other))

    def test_some_by_hand(self):
        kind = ("root", 2)
        self.told(((3, 1), (2, 1)), root_deed, kind, "times", (ONE, ONE), (ONE, ONE))
        self.told(((-1, 1), ONE), root_deed, kind, "over", (ONE, NOUGHT), (ONE, ONE))
        self.told(((1, 2), NOUGHT), root_deed, kind, "over", (ONE, NOUGHT), ((2, 1), NOUGHT))
        self.told((NOUGHT, (1, 2)), root_deed, kind, "over", (ONE, NOUGHT), (NOUGHT, ONE))
        self.told(((2, 1), NOUGHT), root_deed, kind, "times", (NOUGHT, ONE), (NOUGHT, ONE))

    def test_over_by_one_share_alone_is_no_nought(self):
        for root in ROOTS:
            self.told((ONE, NOUGHT), root_deed, ("root", root), "over", (NOUGHT, (3, 4)), (NOUGHT, (3, 4)))
            self.told((ONE, NOUGHT), root_deed, ("root", root), "over", ((-3, 4), NOUGHT), ((-3, 4), NOUGHT))
            self.told((NOUGHT, NOUGHT), root_deed, ("root", root), "over", (NOUGHT, NOUGHT), (NOUGHT, ONE))

    def test_just_at_the_bound_and_beyond_in_the_first_share(self):
        kind = ("root", 3)
        for one, other in (((HALF, 1), (HALF, 1)), ((-HALF, 1), (HALF, 1))):
            wanted = (one[0] * other[0], 1)
            self.told((wanted, NOUGHT), root_deed, kind, "times", (one, NOUGHT), (other, NOUGHT))
            self.refused(TooGreat, root_deed, kind, "times", (one, NOUGHT), ((HALF + 1, 1), NOUGHT))
        self.told(((1, BOUND), NOUGHT), root_deed, kind, "times", ((1, HALF), NOUGHT), ((1, HALF), NOUGHT))
        self.refused(TooGreat, root_deed, kind, "times", ((1, HALF), NOUGHT), ((1, HALF + 1), NOUGHT))
        self.told(((BOUND, 1), NOUGHT), root_deed, kind, "plus", ((BOUND - 1, 1), NOUGHT), (ONE, NOUGHT))
        self.refused(TooGreat, root_deed, kind, "plus", ((BOUND, 1), NOUGHT), (ONE, NOUGHT))
        self.told(((-BOUND, 1), NOUGHT), root_deed, kind, "less", ((1 - BOUND, 1), NOUGHT), (ONE, NOUGHT))
        self.refused(TooGreat, root_deed, kind, "less", ((-BOUND, 1), NOUGHT), (ONE, NOUGHT))
        self.refused(TooGreat, root_deed, kind, "times", (NOUGHT, (HALF, 1)), (NOUGHT, (HALF, 1)))

    def test_just_at_the_bound_and_beyond_in_the_second_share(self):
        kind = ("root", 3)
        for one, other in (((HALF, 1), (HALF, 1)), ((-HALF, 1), (HALF, 1))):
            wanted = (one[0] * other[0], 1)
            self.told((NOUGHT, wanted), root_deed, kind, "times", (NOUGHT, one), (other, NOUGHT))
            self.refused(TooGreat, root_deed, kind, "times", (NOUGHT, one), ((HALF + 1, 1), NOUGHT))
        self.told((NOUGHT, (1, BOUND)), root_deed, kind, "times", (NOUGHT, (1, HALF)), ((1, HALF), NOUGHT))
        self.refused(TooGreat, root_deed, kind, "times", (NOUGHT, (1, HALF)), ((1, HALF + 1), NOUGHT))
        self.told((NOUGHT, (BOUND, 1)), root_deed, kind, "plus", (NOUGHT, (BOUND - 1, 1)), (NOUGHT, ONE))
        self.refused(TooGreat, root_deed, kind, "plus", (NOUGHT, (BOUND, 1)), (NOUGHT, ONE))
        self.told((NOUGHT, (-BOUND, 1)), root_deed, kind, "less", (NOUGHT, (1 - BOUND, 1)), (NOUGHT, ONE))
        self.refused(TooGreat, root_deed, kind, "less", (NOUGHT, (-BOUND, 1)), (NOUGHT, ONE))

    def test_over_just_at_the_bound_and_beyond(self):
        kind = ("root", 2)
        for worth, wanted in ((((1, HALF), NOUGHT), (BOUND, 1)), (((-1, HALF), NOUGHT), (-BOUND, 1))):
            self.told((wanted, NOUGHT), root_deed, kind, "over", ((HALF, 1), NOUGHT), worth)
            self.told((NOUGHT, wanted), root_deed, kind, "over", (NOUGHT, (HALF, 1)), worth)
            self.refused(TooGreat, root_deed, kind, "over", ((HALF + 1, 1), NOUGHT), worth)
            self.refused(TooGreat, root_deed, kind, "over", (NOUGHT, (HALF + 1, 1)), worth)
        self.told(((1, BOUND), NOUGHT), root_deed, kind, "over", ((1, HALF), NOUGHT), ((HALF, 1), NOUGHT))
        self.refused(TooGreat, root_deed, kind, "over", ((1, HALF), NOUGHT), ((HALF + 1, 1), NOUGHT))
        self.refused(TooGreat, root_deed, kind, "over", (NOUGHT, (1, HALF)), ((HALF + 1, 1), NOUGHT))

    def test_what_is_great_on_the_way_alone_does_no_harm(self):
        kind = ("root", 7)
        great = ((10 ** 299 + 1, 3), (-10 ** 299, 7))
        self.told((ONE, NOUGHT), root_deed, kind, "over", great, great)
        self.told((NOUGHT, NOUGHT), root_deed, kind, "less", great, great)
        self.told((NOUGHT, NOUGHT), root_deed, kind, "times", great, (NOUGHT, NOUGHT))
        self.told(great, root_deed, kind, "times", great, (ONE, NOUGHT))


class Signs(DeedCase):
    def test_signs_of_small_worths(self):
        for root in ROOTS:
            for one in range(-9, 10):
                for other in range(-5, 6):
                    # Scaled by ten to forty the root is so near that no sum of these could be told wrongly.
                    size = one * 10 ** 40 + other * isqrt(root * 10 ** 80)
                    wanted = 0 if one == other == 0 else (1 if size > 0 else -1)
                    self.told(wanted, root_sign, ("root", root), ((one, 1), (other, 1)))

    def test_nought_and_one_share_alone(self):
        for root in ROOTS:
            kind = ("root", root)
            self.told(0, root_sign, kind, (NOUGHT, NOUGHT))
            for part, wanted in (((1, 9), 1), ((-1, 9), -1), ((10 ** 60, 1), 1), ((-1, 10 ** 60), -1)):
                self.told(wanted, root_sign, kind, (part, NOUGHT))
                self.told(wanted, root_sign, kind, (NOUGHT, part))

    def test_fractions_very_near_the_root(self):
        for root in ROOTS:
            kind = ("root", root)
            for many in (0, 1, 5, 30, 60, 140):
                low, high = near(root, many)
                self.told(1, root_sign, kind, told_as((-low, Fraction(1))))
                self.told(-1, root_sign, kind, told_as((-high, Fraction(1))))
                self.told(-1, root_sign, kind, told_as((low, Fraction(-1))))
                self.told(1, root_sign, kind, told_as((high, Fraction(-1))))

    def test_order_near_the_root(self):
        for root in ROOTS:
            kind = ("root", root)
            for many in (0, 1, 30, 60, 140):
                low, high = [told_as((part, Fraction(0))) for part in near(root, many)]
                under, over = [told_as((-part, Fraction(0))) for part in near(root, many)]
                alone, contrary = (NOUGHT, ONE), (NOUGHT, (-1, 1))
                self.told(-1, root_order, kind, low, alone)
                self.told(1, root_order, kind, alone, low)
                self.told(1, root_order, kind, high, alone)
                self.told(-1, root_order, kind, alone, high)
                self.told(1, root_order, kind, under, contrary)
                self.told(-1, root_order, kind, over, contrary)

    def test_order_of_all_pairs(self):
        for root in (2, 30):
            kind = ("root", root)
            scaled = isqrt(root * 10 ** 400)
            for one in WORTHS:
                for other in WORTHS:
                    size = (one[0] - other[0]) * 10 ** 200 + (one[1] - other[1]) * scaled
                    wanted = 0 if one == other else (1 if size > 0 else -1)
                    self.told(wanted, root_order, kind, told_as(one), told_as(other))

    def test_a_worth_and_itself(self):
        for root in ROOTS:
            for worth in WORTHS:
                self.told(0, root_order, ("root", root), told_as(worth), told_as(worth))

    def test_great_ones(self):
        kind = ("root", 5)
        great, less = ((BOUND, 1), (-BOUND, 3)), ((BOUND - 1, 1), (-BOUND, 3))
        self.told(1, root_order, kind, great, less)
        self.told(-1, root_order, kind, less, great)
        self.told(1, root_sign, kind, great)
        self.told(-1, root_sign, kind, ((BOUND, 1), (-BOUND // 2, 1)))
        self.told(1, root_sign, kind, ((1, BOUND), NOUGHT))


class Turned(DeedCase):
    def test_turned(self):
        for root in ROOTS:
            for one, other in WORTHS:
                self.told(told_as((one, -other)), turned_root, ("root", root), told_as((one, other)))

    def test_norm(self):
        for root in ROOTS:
            for one, other in WORTHS:
                wanted = one * one - root * other * other
                self.told(told_as((wanted,))[0], root_norm, ("root", root), told_as((one, other)))

    def test_norm_however_great(self):
        self.told((10 ** 600, 1), root_norm, ("root", 2), ((BOUND, 1), NOUGHT))
        self.told((-2 * 10 ** 600, 1), root_norm, ("root", 2), (NOUGHT, (BOUND, 1)))
        self.told((1, 10 ** 600), root_norm, ("root", 2), ((1, BOUND), NOUGHT))
        self.told((-3, 10 ** 600), root_norm, ("root", 3), (NOUGHT, (1, BOUND)))
        self.told((1 - 2 * 10 ** 602, 1), root_norm, ("root", 2), (ONE, (10 ** 301, 1)))

    def test_turned_however_great(self):
        self.told(((10 ** 301, 1), (-10 ** 301, 1)), turned_root, ("root", 2), ((10 ** 301, 1), (10 ** 301, 1)))


class Refusals(DeedCase):
    def test_other_kinds(self):
        good = (ONE, ONE)
        self.refuses_kinds(root_deed, ("root",), [("plus", good, good), ("foo", None, None), ("plus", 1, 1),
                                                  ("over", ONE, NOUGHT)])
        self.refuses_kinds(root_order, ("root",), [(good, good), (None, None), (1, 1), (ONE, ONE)])
        for function in (root_sign, turned_root, root_norm):
            self.refuses_kinds(function, ("root",), [(good,), (None,), (1,), (ONE,)])

    def test_worths_and_deeds(self):
        good = ((1, 2), (-3, 4))
        for kind in (("root", 2), ("root", 58)):
            self.refuses_deeds(root_deed, kind, good, is_root_worth)
            self.refuses_worths(root_order, kind, good, is_root_worth)
            for function in (root_sign, turned_root, root_norm):
                self.refuses_others(BadWorth, function, is_root_worth, ahead=(kind,))
                for worth in (((2, 4), ONE), (ONE, (2, 4)), [ONE, ONE], (ONE, ONE, ONE), ((True, 1), ONE), ONE):
                    self.refused(BadWorth, function, kind, worth)

    def test_no_deed_ahead_of_by_nought_and_too_great(self):
        kind = ("root", 2)
        self.refused(NoDeed, root_deed, kind, "by", (ONE, ONE), (NOUGHT, NOUGHT))
        self.refused(NoDeed, root_deed, kind, "by", ((BOUND, 1), ONE), ((BOUND, 1), ONE))

    def test_by_nought_ahead_of_too_great(self):
        kind = ("root", 2)
        self.refused(ByNought, root_deed, kind, "over", ((BOUND + 1, 1), ONE), (NOUGHT, NOUGHT))
        self.refused(BadWorth, root_deed, kind, "over", None, (NOUGHT, NOUGHT))
