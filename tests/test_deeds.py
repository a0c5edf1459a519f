"""[31] Which deeds a kind HAS, and what comes in any kind: towerwise.deeds."""

from tests.deedcase import DEEDS, DeedCase, NO_DEEDS
from tests.test_worths import is_good
from tests.things import KINDS, OWN_SIX, OWN_TWO, THINGS
from tests.towercase import OWN_FOUR, OWN_THREE, some_worths
from towerwise.about import about_deed
from towerwise.deeds import deed_done, has_deed
from towerwise.errors import BadKind, BadWorth, ByNought, NoDeed, TooGreat, TowerError
from towerwise.exact import exact_deed
from towerwise.own import own_deed
from towerwise.roots import root_deed
from towerwise.sure import sure_deed

BOUND = 10 ** 300
NO_LESS = ("own", ((0, 1), (1, 1)), ((0, 0), (0, 1)))
ALL = [("whole",), ("share",), ("root", 2), ("root", 58), ("about", 1), ("about", 2), ("about", 3), OWN_TWO, OWN_THREE,
       OWN_FOUR, OWN_SIX, NO_LESS] + [("sure", places) for places in range(7)] + [
           ("rest", many) for many in range(2, 13)]
DONE_BY = {"whole": exact_deed, "share": exact_deed, "rest": exact_deed, "root": root_deed, "about": about_deed,
           "sure": sure_deed, "own": own_deed}


def wanted_of(function, *handed):
    """Tell what a function tells, or the class of its refusal."""
    try:
        return function(*handed)
    except TowerError as caught:
        return type(caught)


class HasDeed(DeedCase):
    def test_plus_and_times(self):
        for kind in ALL:
            self.told(True, has_deed, kind, "plus")
            self.told(True, has_deed, kind, "times")

    def test_less(self):
        for kind in ALL:
            self.told(kind != NO_LESS, has_deed, kind, "less")

    def test_over(self):
        for kind in ALL:
            if kind[0] == "rest":
                self.told(kind[1] in (2, 3, 5, 7, 11), has_deed, kind, "over")
            elif kind[0] == "own":
                self.told(kind in (OWN_TWO, OWN_FOUR, NO_LESS), has_deed, kind, "over")
            else:
                self.told(kind != ("whole",), has_deed, kind, "over")

    def test_over_without_a_nought(self):
        self.told(False, has_deed, ("own", ((1, 0), (0, 0)), ((0, 1), (1, 0))), "over")
        self.told(True, has_deed, ("own", ((1, 0), (0, 1)), ((0, 1), (1, 0))), "over")

    def test_refusals(self):
        self.refuses_kinds(has_deed, ("whole", "share", "root", "rest", "about", "sure", "own"), [("plus",), ("foo",)])
        for kind in ALL:
            for thing in THINGS:
                if type(thing) is not str or thing not in DEEDS:
                    self.refused(NoDeed, has_deed, kind, thing)
            for word in NO_DEEDS:
                self.refused(NoDeed, has_deed, kind, word)
        self.refused(BadKind, has_deed, ("rest", 13), None)


class DeedDone(DeedCase):
    def test_what_each_kind_of_its_own_tells(self):
        for kind in ALL:
            worths = some_worths(kind)
            for deed in DEEDS:
                for one in worths[:8]:
                    for other in worths[:6] + worths[-2:]:
                        wanted = wanted_of(DONE_BY[kind[0]], kind, deed, one, other)
                        if type(wanted) is type:
                            self.refused(wanted, deed_done, kind, deed, one, other)
                        else:
                            self.told(wanted, deed_done, kind, deed, one, other)

    def test_by_hand(self):
        for kind, deed, one, other, wanted in (
                (("whole",), "less", 3, 5, -2), (("share",), "over", (1, 2), (3, 1), (1, 6)),
                (("root", 5), "times", ((1, 1), (1, 1)), ((1, 1), (1, 1)), ((6, 1), (2, 1))),
                (("rest", 7), "over", 1, 3, 5), (("about", 2), "times", (25, 0), (5, 0), (13, 1)),
                (("sure", 0), "less", ((1, 2), (1, 1)), ((1, 2), (1, 1)), ((-1, 2), (1, 2))),
                (OWN_FOUR, "over", 1, 2, 3), (OWN_SIX, "plus", 5, 5, 4)):
            self.told(wanted, deed_done, kind, deed, one, other)

    def test_no_deed(self):
        self.refused(NoDeed, deed_done, ("whole",), "over", 4, 2)
        for many in (4, 6, 8, 9, 10, 12):
            self.refused(NoDeed, deed_done, ("rest", many), "over", 1, 1)
        self.refused(NoDeed, deed_done, OWN_SIX, "over", 1, 1)
        self.refused(NoDeed, deed_done, NO_LESS, "less", 1, 1)

    def test_by_nought(self):
        for kind, one, other in ((("share",), (1, 2), (0, 1)), (("root", 3), ((1, 1), (1, 1)), ((0, 1), (0, 1))),
                                 (("rest", 5), 1, 0), (("about", 1), (1, 0), (0, 0)), (OWN_FOUR, 3, 0),
                                 (("sure", 1), ((1, 1), (1, 1)), ((-1, 1), (0, 1)))):
            self.refused(ByNought, deed_done, kind, "over", one, other)

    def test_too_great(self):
        self.refused(TooGreat, deed_done, ("whole",), "plus", BOUND, 1)
        self.refused(TooGreat, deed_done, ("share",), "times", (BOUND, 1), (2, 1))
        self.refused(TooGreat, deed_done, ("root", 2), "less", ((BOUND, 1), (0, 1)), ((-1, 1), (0, 1)))
        self.refused(TooGreat, deed_done, ("about", 1), "times", (9, 400), (9, 0))
        self.refused(TooGreat, deed_done, ("sure", 2), "plus", ((BOUND, 1), (BOUND, 1)), ((0, 1), (1, 1)))

    def test_other_things(self):
        self.refuses_kinds(deed_done, ("whole", "share", "root", "rest", "about", "sure", "own"),
                           [("plus", 1, 1), ("foo", None, None), ("over", (1, 1), (0, 1))])
        for kind in KINDS:
            self.refuses_deeds(deed_done, kind, some_worths(kind)[0], lambda thing: is_good(kind, thing))

    def test_refusals_in_order(self):
        self.refused(BadKind, deed_done, ("rest", 13), "over", 13, 0)
        self.refused(BadWorth, deed_done, ("rest", 12), "over", 12, 0)
        self.refused(BadWorth, deed_done, ("rest", 12), "over", 0, 12)
        self.refused(NoDeed, deed_done, ("rest", 12), "over", 1, 0)
        self.refused(NoDeed, deed_done, ("whole",), "over", BOUND, 0)
        self.refused(ByNought, deed_done, ("share",), "over", (BOUND + 1, 1), (0, 1))
