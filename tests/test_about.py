"""[21] Deeds and order of numbers about so many figures: towerwise.about."""

from fractions import Fraction

from tests.deedcase import DeedCase
from tests.test_figures import by_decimals, value
from tests.test_worths import is_good
from towerwise.about import about_deed, about_order
from towerwise.errors import BadWorth, ByNought, NoDeed, TooGreat

FRONTS = {1: (1, 2, 5, 9), 2: (1, 5, 12, 25, 99), 3: (1, 7, 15, 125, 505, 999)}


def worths(figures):
    """List some worths of the kind, either side of nought, near to one another and far."""
    found = [(0, 0)]
    for front in FRONTS[figures]:
        for power in (0, 1, -1, -3, 40):
            found += [(front, power), (-front, power)]
    return found


class Deeds(DeedCase):
    def test_all_four(self):
        for figures in (1, 2, 3):
            kind = ("about", figures)
            for one in worths(figures):
                for other in worths(figures):
                    left, right = value(*one), value(*other)
                    self.told(by_decimals(figures, left + right), about_deed, kind, "plus", one, other)
                    self.told(by_decimals(figures, left - right), about_deed, kind, "less", one, other)
                    self.told(by_decimals(figures, left * right), about_deed, kind, "times", one, other)
                    if right == 0:
                        self.refused(ByNought, about_deed, kind, "over", one, other)
                    else:
                        self.told(by_decimals(figures, left / right), about_deed, kind, "over", one, other)

    def test_by_hand(self):
        for figures, deed, one, other, wanted in (
                (1, "plus", (9, 0), (9, 0), (2, 1)), (1, "plus", (1, 1), (5, 0), (2, 1)),
                (1, "plus", (1, 1), (4, 0), (1, 1)), (1, "less", (1, 1), (1, 0), (9, 0)),
                (1, "times", (5, 0), (5, 0), (3, 1)), (1, "over", (1, 0), (3, 0), (3, -1)),
                (1, "over", (2, 0), (3, 0), (7, -1)), (2, "times", (25, 0), (5, 0), (13, 1)),
                (3, "times", (125, 0), (125, 0), (156, 2)), (2, "over", (1, 0), (8, 0), (13, -2)),
                (3, "over", (1, 0), (8, 0), (125, -3)), (1, "less", (5, 3), (5, 3), (0, 0)),
                (1, "plus", (1, 400), (1, -400), (1, 400)), (1, "less", (1, 1), (5, -1), (1, 1)),
                (2, "times", (-15, -1), (15, -1), (-23, -1)), (1, "over", (0, 0), (7, 0), (0, 0))):
            self.told(wanted, about_deed, ("about", figures), deed, one, other)

    def test_powers_at_the_bound_and_beyond(self):
        for figures in (1, 2, 3):
            kind = ("about", figures)
            self.told((9, 400), about_deed, kind, "plus", (4, 400), (5, 400))
            self.told((1, 400), about_deed, kind, "times", (1, 399), (1, 1))
            self.told((1, -400), about_deed, kind, "times", (1, -399), (1, -1))
            self.told((1, 400), about_deed, kind, "over", (1, 0), (1, -400))
            self.told((1, -400), about_deed, kind, "over", (1, 0), (1, 400))
            self.told((1, 0), about_deed, kind, "over", (1, 400), (1, 400))
            self.told((-1, 0), about_deed, kind, "times", (1, 400), (-1, -400))
            self.told((0, 0), about_deed, kind, "less", (7, -400), (7, -400))
            self.refused(TooGreat, about_deed, kind, "times", (1, 400), (1, 1))
            self.refused(TooGreat, about_deed, kind, "times", (1, -400), (-1, -1))
            self.refused(TooGreat, about_deed, kind, "times", (9, 400), (9, 400))
            self.refused(TooGreat, about_deed, kind, "over", (1, 400), (1, -1))
            self.refused(TooGreat, about_deed, kind, "over", (1, -400), (1, 1))
            self.refused(TooGreat, about_deed, kind, "over", (1, -400), (1, 400))
            most = 10 ** figures - 1
            self.refused(TooGreat, about_deed, kind, "plus", (most, 400), (most, 400))
            self.refused(TooGreat, about_deed, kind, "less", (-most, 400), (1, 400))
        self.refused(TooGreat, about_deed, ("about", 1), "plus", (5, 400), (5, 400))
        self.told((11, 400), about_deed, ("about", 2), "plus", (5, 400), (6, 400))

    def test_order(self):
        for figures in (1, 2, 3):
            found = worths(figures) + [(1, 400), (-1, 400), (9, -400), (-9, -400)]
            for one in found:
                for other in found:
                    left, right = value(*one), value(*other)
                    wanted = (left > right) - (left < right)
                    self.told(wanted, about_order, ("about", figures), one, other)

    def test_order_by_hand(self):
        for one, other, wanted in (((9, 0), (1, 1), -1), ((1, 1), (9, 0), 1), ((-9, 0), (-1, 1), 1),
                                   ((3, 5), (3, 5), 0), ((0, 0), (1, -400), -1), ((0, 0), (-1, -400), 1),
                                   ((1, 400), (9, 399), 1), ((0, 0), (0, 0), 0)):
            self.told(wanted, about_order, ("about", 1), one, other)

    def test_what_came_may_be_handed_in_again(self):
        worth = (7, 0)
        wanted = Fraction(7)
        for _ in range(6):
            self.told(by_decimals(3, value(*worth) * value(*worth)), about_deed, ("about", 3), "times", worth, worth)
            worth = about_deed(("about", 3), "times", worth, worth)
            wanted = value(*by_decimals(3, wanted * wanted))
        self.assertEqual(value(*worth), wanted)


class Refusals(DeedCase):
    def test_other_kinds(self):
        self.refuses_kinds(about_deed, ("about",), [("plus", (1, 0), (1, 0)), ("foo", None, None), ("over", 1, 0),
                                                    ("over", (1, 0), (0, 0))])
        self.refuses_kinds(about_order, ("about",), [((1, 0), (1, 0)), (None, None), (1, 0)])

    def test_worths_and_deeds(self):
        for figures in (1, 2, 3):
            kind = ("about", figures)
            self.refuses_deeds(about_deed, kind, (-7, 3), lambda thing: is_good(kind, thing))
            self.refuses_worths(about_order, kind, (-7, 3), lambda thing: is_good(kind, thing))
            for worth in ((10 ** figures + 1, 0), (10, 0), (1, 401), (0, 1), (True, 0), [1, 0], (1, 0, 0)):
                for deed in ("plus", "less", "times", "over"):
                    self.refused(BadWorth, about_deed, kind, deed, worth, (1, 0))
                    self.refused(BadWorth, about_deed, kind, deed, (1, 0), worth)
                self.refused(BadWorth, about_order, kind, worth, (1, 0))
                self.refused(BadWorth, about_order, kind, (1, 0), worth)

    def test_refusals_in_order(self):
        kind = ("about", 2)
        self.refused(BadWorth, about_deed, kind, "over", None, (0, 0))
        self.refused(BadWorth, about_deed, kind, "foo", (1, 0), (0, 5))
        self.refused(NoDeed, about_deed, kind, "by", (1, 0), (0, 0))
        self.refused(NoDeed, about_deed, kind, None, (99, 400), (99, 400))
        self.refused(ByNought, about_deed, kind, "over", (99, 400), (0, 0))
        self.refused(ByNought, about_deed, kind, "over", (0, 0), (0, 0))
