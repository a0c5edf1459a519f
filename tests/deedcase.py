"""What the tests of deeds and of orders share: their refusals, in order, with two wrong things at once."""

from tests.things import Case, KINDS, THINGS
from towerwise.errors import BadKind, BadWorth, NoDeed

DEEDS = ("plus", "less", "times", "over")
NO_DEEDS = ("", "Plus", "plus ", " plus", "add", "minus", "by", "o", "plusless", "up", "pick")


class DeedCase(Case):
    def refuses_kinds(self, function, words, behind):
        """All kinds of other words, and all that is no kind, are BadKind, whatever stands behind."""
        others = [kind for kind in KINDS if kind[0] not in words]
        others += [kind + (1,) for kind in KINDS] + [list(kind) for kind in KINDS]
        others += [("root", 4), ("root", 61), ("rest", 1), ("rest", 13), ("about", 0), ("about", 4), ("sure", -1),
                   ("sure", 7), ("sure", True), ("root", None)]
        for kind in others:
            for handed in behind:
                self.refused(BadKind, function, kind, *handed)
        self.refuses_others(BadKind, function, lambda thing: type(thing) is tuple and thing[:1] in [
            (word,) for word in words], behind=behind[0])

    def refuses_deeds(self, function, kind, good, is_good):
        """BadWorth of the one, of the other, then NoDeed: of things of every kind, and with two wrong at once."""
        bad = [thing for thing in THINGS if not is_good(thing)]
        self.assertGreater(len(bad), 40)
        for thing in bad:
            for deed in DEEDS + ("foo", None):
                self.refused(BadWorth, function, kind, deed, thing, good)
                self.refused(BadWorth, function, kind, deed, good, thing)
            self.refused(BadWorth, function, kind, "plus", thing, thing)
        for thing in THINGS:
            if type(thing) is not str or thing not in DEEDS:
                self.refused(NoDeed, function, kind, thing, good, good)
        for word in NO_DEEDS:
            self.refused(NoDeed, function, kind, word, good, good)

    def refuses_worths(self, function, kind, good, is_good):
        """BadWorth of the one and of the other, of things of every kind."""
        self.refuses_others(BadWorth, function, is_good, ahead=(kind, good))
        self.refuses_others(BadWorth, function, is_good, ahead=(kind,), behind=(good,))
