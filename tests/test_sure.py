"""[22] to [24] Sure bounds: towerwise.sure."""

from fractions import Fraction

from tests.deedcase import DeedCase
from tests.test_worths import is_good
from tests.things import Case, THINGS, whole
from towerwise.errors import BadNumber, BadWorth, ByNought, NoDeed, TooGreat
from towerwise.sure import hull_of, is_within, root_bounds, sure_deed, sure_like, sure_order

SURE = ("sure", 2)
NOUGHT, ONE = (0, 1), (1, 1)
BOUND = 10 ** 300
HALF = 10 ** 150
ENDS = [Fraction(-3), Fraction(-1), Fraction(-1, 2), Fraction(0), Fraction(2, 3), Fraction(1), Fraction(5, 2)]
WORTHS = [(low, high) for low in ENDS for high in ENDS if low <= high]


def told_as(worth):
    """Tell a pair of Python's Fractions as a worth."""
    return tuple((part.numerator, part.denominator) for part in worth)


def alone(number):
    """Tell the bounds that have one FRACTION alone."""
    return (number, number)


def is_sure_worth(thing):
    """Tell which things are sure worths."""
    return is_good(SURE, thing)


def product(one, other):
    """Tell the bounds of a product by the signs of both, not by all four ends."""
    (low, high), (least, most) = one, other
    if low >= 0:
        return (low * least if least >= 0 else high * least, high * most if most >= 0 else low * most)
    if high <= 0:
        left, right = product((-high, -low), other)
        return (-right, -left)
    return (min(low * most, high * least, low * least if least >= 0 else low * most),
            max(low * least, high * most))


class Deeds(DeedCase):
    def test_plus_and_less(self):
        for one in WORTHS:
            for other in WORTHS:
                pair = (told_as(one), told_as(other))
                self.told(told_as((one[0] + other[0], one[1] + other[1])), sure_deed, SURE, "plus", *pair)
                self.told(told_as((one[0] - other[1], one[1] - other[0])), sure_deed, SURE, "less", *pair)

    def test_times(self):
        for one in WORTHS:
            for other in WORTHS:
                self.told(told_as(product(one, other)), sure_deed, SURE, "times", told_as(one), told_as(other))

    def test_over(self):
        for one in WORTHS:
            for other in WORTHS:
                if other[0] <= 0 <= other[1]:
                    self.refused(ByNought, sure_deed, SURE, "over", told_as(one), told_as(other))
                else:
                    wanted = product(one, (1 / other[1], 1 / other[0]))
                    self.told(told_as(wanted), sure_deed, SURE, "over", told_as(one), told_as(other))

    def test_by_hand(self):
        one, other = ((-1, 1), (2, 1)), ((-3, 1), (4, 1))
        self.told(((-4, 1), (6, 1)), sure_deed, SURE, "plus", one, other)
        self.told(((-5, 1), (5, 1)), sure_deed, SURE, "less", one, other)
        self.told(((-6, 1), (8, 1)), sure_deed, SURE, "times", one, other)
        self.told(((-1, 2), (1, 1)), sure_deed, SURE, "over", one, ((2, 1), (4, 1)))
        self.told(((-1, 1), (1, 2)), sure_deed, SURE, "over", one, ((-4, 1), (-2, 1)))
        self.told(((1, 4), (3, 2)), sure_deed, SURE, "over", (ONE, (3, 1)), ((2, 1), (4, 1)))

    def test_the_same_twice_is_no_one_number(self):
        worth = ((-1, 1), (2, 1))
        self.told(((-3, 1), (3, 1)), sure_deed, SURE, "less", worth, worth)
        self.told(((-2, 1), (4, 1)), sure_deed, SURE, "times", worth, worth)
        self.told(((1, 2), (2, 1)), sure_deed, SURE, "over", (ONE, (2, 1)), (ONE, (2, 1)))

    def test_nought_within_at_an_end_and_outside(self):
        for other in (((-1, 1), ONE), (NOUGHT, ONE), ((-1, 1), NOUGHT), (NOUGHT, NOUGHT),
                      ((-1, 10 ** 60), (1, 10 ** 60))):
            for one in ((ONE, ONE), (NOUGHT, NOUGHT), ((-5, 1), (7, 1))):
                self.refused(ByNought, sure_deed, SURE, "over", one, other)
        tiny = (1, 10 ** 60)
        self.told(alone((10 ** 60, 1)), sure_deed, SURE, "over", alone(ONE), alone(tiny))
        self.told(((1, 1), (10 ** 60, 1)), sure_deed, SURE, "over", alone(ONE), (tiny, ONE))
        self.told(((-10 ** 60, 1), (-1, 1)), sure_deed, SURE, "over", alone(ONE), ((-1, 1), (-1, 10 ** 60)))

    def test_places_make_no_difference(self):
        for places in range(0, 7):
            self.told(((1, 3), (5, 7)), sure_deed, ("sure", places), "times", ((1, 3), (5, 7)), alone(ONE))
            self.told(alone((1, 3)), sure_deed, ("sure", places), "over", alone(ONE), alone((3, 1)))

    def test_just_at_the_bound_and_beyond_one_end(self):
        top, more = (BOUND, 1), (BOUND - 1, 1)
        self.told((NOUGHT, top), sure_deed, SURE, "plus", (NOUGHT, more), (NOUGHT, ONE))
        self.refused(TooGreat, sure_deed, SURE, "plus", (NOUGHT, top), (NOUGHT, ONE))
        self.told(((-BOUND, 1), NOUGHT), sure_deed, SURE, "less", ((1 - BOUND, 1), NOUGHT), (NOUGHT, ONE))
        self.refused(TooGreat, sure_deed, SURE, "less", ((-BOUND, 1), NOUGHT), (NOUGHT, ONE))
        self.told((ONE, top), sure_deed, SURE, "times", (ONE, (HALF, 1)), (ONE, (HALF, 1)))
        self.refused(TooGreat, sure_deed, SURE, "times", (ONE, (HALF, 1)), (ONE, (HALF + 1, 1)))
        self.refused(TooGreat, sure_deed, SURE, "times", ((-HALF, 1), ONE), (ONE, (HALF + 1, 1)))
        self.told(((1, BOUND), ONE), sure_deed, SURE, "times", ((1, HALF), ONE), ((1, HALF), ONE))
        self.refused(TooGreat, sure_deed, SURE, "times", ((1, HALF), ONE), ((1, HALF + 1), ONE))
        self.told((ONE, top), sure_deed, SURE, "over", (ONE, (HALF, 1)), ((1, HALF), ONE))
        self.refused(TooGreat, sure_deed, SURE, "over", (ONE, (HALF, 1)), ((1, HALF + 1), ONE))
        self.refused(TooGreat, sure_deed, SURE, "over", ((1, HALF), ONE), (ONE, (HALF + 1, 1)))

    def test_what_is_great_on_the_way_alone_does_no_harm(self):
        self.told(alone(ONE), sure_deed, SURE, "over", alone((BOUND, 7)), alone((BOUND, 7)))
        self.told(alone(NOUGHT), sure_deed, SURE, "less", alone((BOUND, 7)), alone((BOUND, 7)))


class Likeness(DeedCase):
    def test_all_pairs(self):
        for one in WORTHS:
            for other in WORTHS:
                if one[1] < other[0]:
                    like, order = "no", "below"
                elif other[1] < one[0]:
                    like, order = "no", "above"
                elif one[0] == one[1] == other[0] == other[1]:
                    like, order = "yes", "alike"
                else:
                    like, order = "perhaps", "perhaps"
                self.told(like, sure_like, SURE, told_as(one), told_as(other))
                self.told(order, sure_order, SURE, told_as(one), told_as(other))

    def test_by_hand(self):
        wide = (NOUGHT, ONE)
        for one, other, like, order in (
                (wide, wide, "perhaps", "perhaps"), (alone(ONE), alone(ONE), "yes", "alike"),
                (alone(ONE), alone(NOUGHT), "no", "above"), (alone(NOUGHT), alone(ONE), "no", "below"),
                (wide, (ONE, (2, 1)), "perhaps", "perhaps"), (wide, alone(ONE), "perhaps", "perhaps"),
                (alone(NOUGHT), wide, "perhaps", "perhaps"), (wide, ((10 ** 60 + 1, 10 ** 60), (2, 1)), "no", "below"),
                (((10 ** 60 + 1, 10 ** 60), (2, 1)), wide, "no", "above")):
            self.told(like, sure_like, SURE, one, other)
            self.told(order, sure_order, SURE, one, other)

    def test_within(self):
        for one in WORTHS:
            for other in WORTHS:
                wanted = other[0] <= one[0] and one[1] <= other[1]
                self.told(wanted, is_within, SURE, told_as(one), told_as(other))

    def test_within_by_hand(self):
        wide = ((-1, 1), ONE)
        for one, other, wanted in ((wide, wide, True), (alone(ONE), wide, True), (wide, alone(ONE), False),
                                   ((NOUGHT, ONE), wide, True), ((NOUGHT, (2, 1)), wide, False),
                                   (((-2, 1), NOUGHT), wide, False), (((-2, 1), (2, 1)), wide, False)):
            self.told(wanted, is_within, SURE, one, other)


class Hulls(DeedCase):
    def test_lists_and_tuples(self):
        for one in WORTHS:
            for other in WORTHS:
                wanted = told_as((min(one[0], other[0]), max(one[1], other[1])))
                self.told(wanted, hull_of, SURE, [told_as(one), told_as(other)])
                self.told(wanted, hull_of, SURE, (told_as(one), told_as(other)))

    def test_one_and_several(self):
        for worth in WORTHS:
            self.told(told_as(worth), hull_of, SURE, [told_as(worth)])
            self.told(told_as(worth), hull_of, SURE, (told_as(worth),))
        self.told(((-3, 1), (5, 2)), hull_of, SURE, [told_as(worth) for worth in WORTHS])
        self.told(((-3, 1), (5, 2)), hull_of, SURE, tuple(told_as(worth) for worth in reversed(WORTHS)))
        self.told(((1, 3), (3, 1)), hull_of, SURE, [alone((2, 1)), alone((1, 3)), alone((3, 1)), alone((1, 2))])

    def test_however_great(self):
        self.told(((-BOUND - 1, 1), (BOUND + 1, 1)), hull_of, SURE, [alone((BOUND + 1, 1)), alone((-BOUND - 1, 1))])

    def test_none(self):
        self.refused(BadWorth, hull_of, SURE, [])
        self.refused(BadWorth, hull_of, SURE, ())

    def test_no_lists_of_worths(self):
        good = told_as(WORTHS[3])
        self.refuses_others(BadWorth, hull_of, lambda thing: type(thing) in (list, tuple) and len(thing) > 0 and all(
            is_sure_worth(worth) for worth in thing), ahead=(SURE,))
        self.refused(BadWorth, hull_of, SURE, good)
        self.refused(BadWorth, hull_of, SURE, {good: good})
        self.refused(BadWorth, hull_of, SURE, {good})
        for thing in THINGS:
            if not is_sure_worth(thing):
                self.refused(BadWorth, hull_of, SURE, [good, thing])
                self.refused(BadWorth, hull_of, SURE, (thing, good))
                self.refused(BadWorth, hull_of, SURE, [good, good, thing, good])

    def test_lists_handed_in_are_kept_nowhere(self):
        handed = [alone(ONE), alone(NOUGHT)]
        first = hull_of(SURE, handed)
        handed.append(alone((9, 1)))
        self.assertEqual(first, (NOUGHT, ONE))
        self.told((NOUGHT, (9, 1)), hull_of, SURE, handed)
        handed.clear()
        self.refused(BadWorth, hull_of, SURE, handed)


class RootBounds(Case):
    def test_all(self):
        for number in range(2, 61):
            for places in range(0, 7):
                step = Fraction(1, 10 ** places)
                # From the whole number below, by steps, place for place: no root is taken here.
                low = Fraction(max(whole_one for whole_one in range(8) if whole_one ** 2 <= number))
                for place in range(1, places + 1):
                    small = Fraction(1, 10 ** place)
                    low += max(many for many in range(10) if (low + many * small) ** 2 <= number) * small
                self.told(told_as((low, low + step)), root_bounds, number, places)
                self.assertTrue(low ** 2 <= number < (low + step) ** 2)

    def test_by_hand(self):
        for number, places, wanted in (
                (2, 0, (ONE, (2, 1))), (2, 1, ((7, 5), (3, 2))), (2, 3, ((707, 500), (283, 200))),
                (4, 0, ((2, 1), (3, 1))), (4, 2, ((2, 1), (201, 100))), (60, 0, ((7, 1), (8, 1))),
                (49, 6, ((7, 1), (7000001, 1000000))), (3, 2, ((173, 100), (87, 50)))):
            self.told(wanted, root_bounds, number, places)

    def test_bounds_of_both(self):
        for number in (-4, -1, 0, 1, 61, 62, 100, 10 ** 60):
            for places in (0, 3, 6):
                self.refused(BadNumber, root_bounds, number, places)
        for places in (-2, -1, 7, 8, 10 ** 60):
            for number in (2, 60):
                self.refused(BadNumber, root_bounds, number, places)

    def test_no_whole_numbers(self):
        self.refuses_others(BadNumber, root_bounds, lambda thing: whole(thing) and 2 <= thing <= 60, behind=(2,))
        self.refuses_others(BadNumber, root_bounds, lambda thing: whole(thing) and 0 <= thing <= 6, ahead=(2,))
        self.refused(BadNumber, root_bounds, 2, True)
        self.refused(BadNumber, root_bounds, True, True)


class Refusals(DeedCase):
    def test_other_kinds(self):
        good = (NOUGHT, ONE)
        self.refuses_kinds(sure_deed, ("sure",), [("plus", good, good), ("foo", None, None), ("over", ONE, NOUGHT)])
        for function in (sure_like, sure_order, is_within):
            self.refuses_kinds(function, ("sure",), [(good, good), (None, None), (ONE, ONE)])
        self.refuses_kinds(hull_of, ("sure",), [([good],), ([],), (None,), (good,)])

    def test_worths_and_deeds(self):
        good = ((-1, 2), (7, 3))
        for kind in (("sure", 0), ("sure", 6)):
            self.refuses_deeds(sure_deed, kind, good, is_sure_worth)
            for function in (sure_like, sure_order, is_within):
                self.refuses_worths(function, kind, good, is_sure_worth)
                for worth in ((ONE, NOUGHT), ((2, 4), ONE), [NOUGHT, ONE], (ONE,), ONE, ((True, 1), ONE)):
                    self.refused(BadWorth, function, kind, worth, good)
                    self.refused(BadWorth, function, kind, good, worth)

    def test_refusals_in_order(self):
        self.refused(BadWorth, sure_deed, SURE, "over", None, alone(NOUGHT))
        self.refused(BadWorth, sure_deed, SURE, "over", alone(ONE), (ONE, NOUGHT))
        self.refused(NoDeed, sure_deed, SURE, "by", alone(ONE), alone(NOUGHT))
        self.refused(NoDeed, sure_deed, SURE, None, alone((BOUND, 1)), alone((BOUND, 1)))
        self.refused(ByNought, sure_deed, SURE, "over", alone((BOUND + 1, 1)), ((-1, 1), ONE))
