"""[2] which things are worths, [3] the ORDER OF TRYING: towerwise.worths."""

from math import gcd

from tests.things import Case, KINDS, OWN_SIX, OWN_TWO, THINGS, whole
from towerwise.errors import BadKind, BadNumber, BadWorth
from towerwise.worths import is_worth, need_worth, place_of, worth_at

ONE, NOUGHT = (1, 1), (0, 1)
MANY = 10 ** 60
NO_FRACTIONS = [(2, 4), (0, 2), (1, -1), (1, 0), (-1, -2), (True, 1), (1, True), (1, 2, 3), (1,), (), [1, 2], 1, 0,
                None, "1/2", "1", ("1", "2"), {1: 2}, True, ((1, 2), 1), (None, None)]


def is_pair_of_whole(thing):
    """Tell whether a thing is a tuple of two whole numbers."""
    return type(thing) is tuple and len(thing) == 2 and whole(thing[0]) and whole(thing[1])


def is_share(thing):
    """Tell whether a thing is a FRACTION."""
    return is_pair_of_whole(thing) and thing[1] > 0 and gcd(*thing) == 1


def is_good(kind, thing):
    """Tell, in a way of the test's own, whether a thing is a worth of a kind."""
    word = kind[0]
    if word == "whole":
        return whole(thing)
    if word == "share":
        return is_share(thing)
    if word in ("rest", "own"):
        return whole(thing) and thing in range(kind[1] if word == "rest" else len(kind[1]))
    if word == "about":
        return is_pair_of_whole(thing) and (thing == (0, 0) or (
            str(abs(thing[0]))[-1] != "0" and len(str(abs(thing[0]))) <= kind[1] and abs(thing[1]) <= 400))
    if type(thing) is not tuple or len(thing) != 2 or not is_share(thing[0]) or not is_share(thing[1]):
        return False
    return word == "root" or thing[0][0] * thing[1][1] <= thing[1][0] * thing[0][1]


class Worths(Case):
    def good(self, kind, *things):
        """All these are worths of the kind."""
        for thing in things:
            self.told(True, is_worth, kind, thing)
            self.told(None, need_worth, kind, thing)

    def bad(self, kind, *things):
        """None of these is."""
        for thing in things:
            self.told(False, is_worth, kind, thing)
            self.refused(BadWorth, need_worth, kind, thing)

    def test_whole(self):
        self.good(("whole",), 0, 1, -1, 7, -12, MANY, -MANY, 10 ** 300, 10 ** 300 + 1, -10 ** 300 - 1, 10 ** 3999)
        self.bad(("whole",), True, False, None, "1", (1,), (1, 1), [1], b"1", {1}, ())

    def test_share(self):
        self.good(("share",), NOUGHT, ONE, (-1, 1), (2, 3), (-7, 12), (MANY, 1), (-MANY, MANY - 1), (1, MANY),
                  (10 ** 300 + 1, 1), (1, 10 ** 300 + 1), (-10 ** 3999, 3))
        self.bad(("share",), *NO_FRACTIONS)

    def test_root(self):
        for kind in (("root", 2), ("root", 59)):
            self.good(kind, (NOUGHT, NOUGHT), (ONE, NOUGHT), (NOUGHT, ONE), (ONE, (-1, 2)), ((-3, 4), (5, 1)),
                      ((MANY, 7), (-MANY, 11)), ((10 ** 301, 1), (1, 10 ** 301)), (ONE, ONE), ((2, 1), ONE))
            for wrong in NO_FRACTIONS:
                self.bad(kind, (wrong, ONE), (ONE, wrong), (wrong, wrong))
            self.bad(kind, (ONE,), (ONE, ONE, ONE), [ONE, ONE], (), ONE, 1, None, {ONE: ONE})

    def test_rest(self):
        for many in range(2, 13):
            for number in range(-3, 16):
                if 0 <= number < many:
                    self.good(("rest", many), number)
                else:
                    self.bad(("rest", many), number)
            self.bad(("rest", many), True, False, MANY, -MANY, "0", (0,), None, [0])

    def test_own(self):
        for kind, many in ((OWN_TWO, 2), (OWN_SIX, 6)):
            for number in range(-3, 9):
                if 0 <= number < many:
                    self.good(kind, number)
                else:
                    self.bad(kind, number)
            self.bad(kind, True, False, MANY, "0", (0,), None, [0])

    def test_about_nought(self):
        for figures in (1, 2, 3):
            kind = ("about", figures)
            self.good(kind, (0, 0))
            for power in (1, -1, 5, 400, -400, 401, 10, 20):
                self.bad(kind, (0, power))

    def test_about_each_front(self):
        for figures in (1, 2, 3):
            kind = ("about", figures)
            for front in range(-1100, 1101):
                if front % 10 != 0:
                    fits = abs(front) <= 10 ** figures - 1
                    (self.good if fits else self.bad)(kind, (front, 0), (front, -2), (front, 400))
                elif front != 0:
                    self.bad(kind, (front, 0), (front, 3))

    def test_about_each_power(self):
        for figures in (1, 2, 3):
            kind = ("about", figures)
            for front in (1, -1, 9, -9, 10 ** figures - 1, 1 - 10 ** figures):
                self.good(kind, *[(front, power) for power in (0, 1, -1, 10, 100, -20, 399, -399, 400, -400)])
                self.bad(kind, *[(front, power) for power in (401, -401, 402, 1000, -1000, MANY, -MANY)])

    def test_about_of_many_figures(self):
        for figures in (1, 2, 3):
            self.bad(("about", figures), (MANY, 0), (MANY + 1, 0), (-MANY - 1, 0), (10 ** 3999 - 1, 5))

    def test_about_other_shapes(self):
        kind = ("about", 3)
        self.bad(kind, (True, 0), (1, True), (1, False), (False, False), (False, 0), (0, False), [1, 0], (1,),
                 (1, 0, 0), (), 1, None, "1 0", ("1", 0), (1, "0"), (None, 0), (1, None), (1, [0]), ((1, 0), 0), {1: 0})

    def test_sure(self):
        for kind in (("sure", 0), ("sure", 6)):
            self.good(kind, (NOUGHT, NOUGHT), (NOUGHT, ONE), ((-1, 1), ONE), ((-2, 3), (-1, 2)), ((1, 3), (1, 2)),
                      ((-MANY, 1), (MANY, 1)), ((1, MANY), (1, MANY - 1)), ((-10 ** 301, 1), (10 ** 301, 1)))
            for wrong in NO_FRACTIONS:
                self.bad(kind, (wrong, ONE), (ONE, wrong), (wrong, wrong), (wrong, (9, 1)), ((-9, 1), wrong))
            self.bad(kind, (ONE,), (ONE, ONE, ONE), [ONE, ONE], (), ONE, 1, None)

    def test_sure_low_and_high(self):
        kind = ("sure", 2)
        ends = [(-2, 1), (-3, 2), (-1, 1), (-1, 2), NOUGHT, (1, 3), (1, 2), (MANY - 1, MANY), (MANY, MANY + 1), ONE]
        for low in range(len(ends)):
            for high in range(len(ends)):
                (self.good if low <= high else self.bad)(kind, (ends[low], ends[high]))

    def test_worths_of_another_kind(self):
        self.bad(("whole",), (1, 1), (1, 0), (ONE, ONE))
        self.bad(("share",), 1, (ONE, ONE), (5, 0))
        self.bad(("root", 2), 1, ONE, (1, 0))
        self.bad(("about", 2), 1, (ONE, ONE), (100, 1))
        self.bad(("sure", 2), 1, ONE, (1, 0), (ONE, NOUGHT))
        self.bad(("rest", 5), ONE, (1, 0), 5)

    def test_all_things_in_all_kinds(self):
        for kind in KINDS:
            for thing in THINGS:
                (self.good if is_good(kind, thing) else self.bad)(kind, thing)

    def test_bad_kind_ahead_of_bad_worth(self):
        for kind in (("rest", 13), ("whole", 1), ["whole"], None, "whole", ("root", 4), (), True, 0, {}):
            for thing in (0, (0, 1), None, [], "0"):
                self.refused(BadKind, is_worth, kind, thing)
                self.refused(BadKind, need_worth, kind, thing)

    def test_no_kind_of_any_kind(self):
        for function in (is_worth, need_worth, worth_at, place_of):
            for handed in (0, None):
                self.refuses_others(BadKind, function, lambda thing: type(thing) is tuple and thing in KINDS,
                                    behind=(handed,))


def whole_order():
    """List the first whole numbers in the ORDER OF TRYING."""
    return sorted(range(-250, 251), key=lambda number: (abs(number), number < 0))


def share_order():
    """List the first shares in the ORDER OF TRYING."""
    found = [(above, below) for above in range(-40, 41) for below in range(1, 42 - abs(above))
             if gcd(above, below) == 1]
    return sorted(found, key=lambda share: (abs(share[0]) + share[1], share[1], share[0] < 0))


def root_order():
    """List the first worths of a root in the ORDER OF TRYING."""
    shares = share_order()[:25]
    places = sorted(((one, other) for one in range(25) for other in range(25)), key=lambda pair: (max(pair), pair))
    return [(shares[one], shares[other]) for one, other in places]


def about_order(figures):
    """List the first numbers about so many figures in the ORDER OF TRYING."""
    most = min(10 ** figures - 1, 40)
    found = [(front, power) for front in range(-most, most + 1) for power in range(-40, 41)
             if front % 10 != 0 and abs(front) + abs(power) <= 40]
    found.append((0, 0))
    return sorted(found, key=lambda worth: (
        abs(worth[0]) + abs(worth[1]), abs(worth[1]), worth[1] < 0, worth[0] < 0))


def sure_order():
    """List the sure bounds that have a number."""
    found = [((low, 1), (high, 1)) for low in range(-2, 3) for high in range(low, 3)]
    return sorted(found, key=lambda worth: (worth[1][0] - worth[0][0], worth[0][0]))


# The first forty of each, written out as [3] has them.
FIRST_SHARES = [
    (0, 1), (1, 1), (-1, 1), (2, 1), (-2, 1), (1, 2), (-1, 2), (3, 1), (-3, 1), (1, 3), (-1, 3), (4, 1), (-4, 1),
    (3, 2), (-3, 2), (2, 3), (-2, 3), (1, 4), (-1, 4), (5, 1), (-5, 1), (1, 5), (-1, 5), (6, 1), (-6, 1), (5, 2),
    (-5, 2), (4, 3), (-4, 3), (3, 4), (-3, 4), (2, 5), (-2, 5), (1, 6), (-1, 6), (7, 1), (-7, 1), (5, 3), (-5, 3),
    (3, 5)]
FIRST_ABOUTS = [
    (0, 0), (1, 0), (-1, 0), (2, 0), (-2, 0), (1, 1), (-1, 1), (1, -1), (-1, -1), (3, 0), (-3, 0), (2, 1), (-2, 1),
    (2, -1), (-2, -1), (1, 2), (-1, 2), (1, -2), (-1, -2), (4, 0), (-4, 0), (3, 1), (-3, 1), (3, -1), (-3, -1),
    (2, 2), (-2, 2), (2, -2), (-2, -2), (1, 3), (-1, 3), (1, -3), (-1, -3), (5, 0), (-5, 0), (4, 1), (-4, 1),
    (4, -1), (-4, -1), (3, 2)]
FIRST_ROOTS = [
    ((0, 1), (0, 1)), ((0, 1), (1, 1)), ((1, 1), (0, 1)), ((1, 1), (1, 1)), ((0, 1), (-1, 1)), ((1, 1), (-1, 1)),
    ((-1, 1), (0, 1)), ((-1, 1), (1, 1)), ((-1, 1), (-1, 1)), ((0, 1), (2, 1)), ((1, 1), (2, 1)), ((-1, 1), (2, 1)),
    ((2, 1), (0, 1)), ((2, 1), (1, 1)), ((2, 1), (-1, 1)), ((2, 1), (2, 1)), ((0, 1), (-2, 1)), ((1, 1), (-2, 1)),
    ((-1, 1), (-2, 1)), ((2, 1), (-2, 1)), ((-2, 1), (0, 1)), ((-2, 1), (1, 1)), ((-2, 1), (-1, 1)), ((-2, 1), (2, 1)),
    ((-2, 1), (-2, 1)), ((0, 1), (1, 2)), ((1, 1), (1, 2)), ((-1, 1), (1, 2)), ((2, 1), (1, 2)), ((-2, 1), (1, 2)),
    ((1, 2), (0, 1)), ((1, 2), (1, 1)), ((1, 2), (-1, 1)), ((1, 2), (2, 1)), ((1, 2), (-2, 1)), ((1, 2), (1, 2)),
    ((0, 1), (-1, 2)), ((1, 1), (-1, 2)), ((-1, 1), (-1, 2)), ((2, 1), (-1, 2))]


class Order(Case):
    def stands(self, kind, worths):
        """These are the first worths of the kind, from 0 to 400 at the most."""
        for number, worth in enumerate(worths[:401]):
            self.told(worth, worth_at, kind, number)
            self.told(number, place_of, kind, worth)

    def refuses_from(self, kind, last):
        """There is a worth of the last number, none beyond it."""
        self.told(last, place_of, kind, worth_at(kind, last))
        for number in (last + 1, last + 2, 401, 402, 1000, MANY, 10 ** 3999):
            self.refused(BadNumber, worth_at, kind, number)

    def test_the_first_forty_written_out(self):
        for worths in (FIRST_SHARES, FIRST_ABOUTS, FIRST_ROOTS):
            self.assertEqual(len(worths), 40)
        self.stands(("share",), FIRST_SHARES)
        for figures in (1, 2, 3):
            self.stands(("about", figures), FIRST_ABOUTS)
        for root in (2, 3, 5, 30, 59):
            self.stands(("root", root), FIRST_ROOTS)

    def test_all_places_from_0_to_400_and_back(self):
        for kind in (("share",), ("about", 1), ("about", 2), ("about", 3), ("root", 2), ("root", 5), ("root", 59)):
            worths = [worth_at(kind, number) for number in range(401)]
            self.assertEqual(len(set(worths)), 401)
            for number, worth in enumerate(worths):
                self.told(number, place_of, kind, worth)
                self.told(worth, worth_at, kind, number)

    def test_places_just_beyond_400(self):
        # Those that are told by as much together as the one at 400, and those by one more.
        for kind, worths in ((("share",), share_order()), (("about", 1), about_order(1)),
                             (("about", 2), about_order(2)),
                             (("about", 3), about_order(3)), (("root", 7), root_order())):
            for worth in worths[401:480]:
                self.refused(BadNumber, place_of, kind, worth)
            self.refused(BadNumber, worth_at, kind, 401)

    def test_whole_as_listed(self):
        self.stands(("whole",), [0, 1, -1, 2, -2])

    def test_whole(self):
        self.assertGreater(len(whole_order()), 401)
        self.stands(("whole",), whole_order())

    def test_share_as_listed(self):
        self.stands(("share",), [NOUGHT, ONE, (-1, 1), (2, 1), (-2, 1), (1, 2), (-1, 2), (3, 1), (-3, 1), (1, 3)])

    def test_share(self):
        self.assertGreater(len(share_order()), 401)
        self.stands(("share",), share_order())

    def test_root_first_ones(self):
        low = (-1, 1)
        self.stands(("root", 3), [(NOUGHT, NOUGHT), (NOUGHT, ONE), (ONE, NOUGHT), (ONE, ONE), (NOUGHT, low), (ONE, low),
                                  (low, NOUGHT), (low, ONE), (low, low), (NOUGHT, (2, 1))])

    def test_root(self):
        self.assertGreater(len(root_order()), 401)
        for root in (2, 6, 59):
            self.stands(("root", root), root_order())

    def test_rest(self):
        for many in range(2, 13):
            self.stands(("rest", many), list(range(many)))
            self.refuses_from(("rest", many), many - 1)

    def test_own(self):
        self.stands(OWN_TWO, [0, 1])
        self.stands(OWN_SIX, [0, 1, 2, 3, 4, 5])
        self.refuses_from(OWN_TWO, 1)
        self.refuses_from(OWN_SIX, 5)

    def test_about_as_listed(self):
        for figures in (1, 2, 3):
            self.stands(("about", figures),
                        [(0, 0), (1, 0), (-1, 0), (2, 0), (-2, 0), (1, 1), (-1, 1), (1, -1), (-1, -1), (3, 0)])

    def test_about(self):
        for figures in (1, 2, 3):
            self.assertGreater(len(about_order(figures)), 401)
            self.stands(("about", figures), about_order(figures))

    def test_sure(self):
        self.assertEqual(len(sure_order()), 15)
        self.assertEqual(sure_order()[0], ((-2, 1), (-2, 1)))
        for places in range(0, 7):
            self.stands(("sure", places), sure_order())
            self.refuses_from(("sure", places), 14)

    def test_place_back_to_worth_for_all_numbers(self):
        for kind in KINDS:
            for number in range(401):
                try:
                    worth = worth_at(kind, number)
                except BadNumber:
                    self.assertIn(kind[0], ("rest", "own", "sure"))
                    break
                self.told(True, is_worth, kind, worth)
                self.told(number, place_of, kind, worth)

    def test_numbers_400_and_401(self):
        for kind, worth in ((("whole",), -200), (("share",), share_order()[400]), (("root", 2), root_order()[400]),
                            (("about", 1), about_order(1)[400]), (("about", 2), about_order(2)[400]),
                            (("about", 3), about_order(3)[400])):
            self.told(worth, worth_at, kind, 400)
            self.told(400, place_of, kind, worth)
            self.refuses_from(kind, 400)

    def test_worths_whose_number_is_beyond_400(self):
        self.refused(BadNumber, place_of, ("whole",), 201)
        for number in (-201, 202, 10 ** 60, -10 ** 60, 10 ** 3999):
            self.refused(BadNumber, place_of, ("whole",), number)
        for kind, worths in ((("share",), share_order()), (("root", 2), root_order()), (("about", 1), about_order(1)),
                             (("about", 2), about_order(2)), (("about", 3), about_order(3))):
            for worth in worths[401:]:
                self.refused(BadNumber, place_of, kind, worth)

    def test_large_worths_have_no_number_here(self):
        large = (10 ** 60, 10 ** 60 - 1)
        self.refused(BadNumber, place_of, ("share",), large)
        self.refused(BadNumber, place_of, ("share",), (1, 10 ** 3999))
        for worth in ((large, NOUGHT), (NOUGHT, large), (large, large), ((401, 1), NOUGHT), (NOUGHT, (-1, 401))):
            self.refused(BadNumber, place_of, ("root", 5), worth)
        for worth in ((999, 400), (-1, -400), (1, 400), (1, 40), (997, 0)):
            self.refused(BadNumber, place_of, ("about", 3), worth)

    def test_sure_worths_that_have_none(self):
        kind = ("sure", 2)
        for worth in ((NOUGHT, (1, 2)), ((1, 2), (1, 2)), ((-3, 1), NOUGHT), (NOUGHT, (3, 1)), ((3, 1), (3, 1)),
                      ((-5, 2), (5, 2)), ((10 ** 60, 1), (10 ** 60, 1))):
            self.refused(BadNumber, place_of, kind, worth)

    def test_no_numbers_of_any_kind(self):
        for kind in KINDS:
            last = {"rest": kind[-1], "sure": 15}.get(kind[0], 401)
            last = len(kind[1]) if kind[0] == "own" else last
            self.refuses_others(BadNumber, worth_at, lambda thing: whole(thing) and 0 <= thing < last, ahead=(kind,))
            for number in (True, False, -1, -2, "0", None, (0,), [0]):
                self.refused(BadNumber, worth_at, kind, number)

    def test_no_worths_of_any_kind(self):
        for kind in KINDS:
            self.refuses_others(BadWorth, place_of, lambda thing: is_good(kind, thing), ahead=(kind,))

    def test_refusals_in_order(self):
        self.refused(BadKind, worth_at, ("rest", 13), 401)
        self.refused(BadKind, place_of, ("rest", 13), None)
        self.refused(BadWorth, place_of, ("sure", 2), ((3, 1), (2, 1)))
        self.refused(BadWorth, place_of, ("whole",), True)
        self.refused(BadWorth, place_of, ("about", 2), (401, 1))
