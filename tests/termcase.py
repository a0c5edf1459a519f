"""What the tests of TERMS and EQUATIONS share: kinds, terms, and what terms tell, found in a way of the tests."""

from tests.things import Case, OWN_SIX, OWN_TWO, THINGS
from tests.towercase import OWN_FOUR, OWN_THREE
from towerwise.deeds import deed_done
from towerwise.errors import BadKind, BadTerm

A, B, C, D = [("name", name) for name in "abcd"]
# Neither NOUGHT nor ONE nor less.
OWN_BARE = ("own", ((0, 0), (0, 0)), ((1, 1), (1, 1)))
# A NOUGHT and a ONE, but no less: plus is "or".
OWN_OR = ("own", ((0, 1), (1, 1)), ((0, 0), (0, 1)))
# Less, but no NOUGHT; a ONE.
OWN_LESS = ("own", ((1, 2, 0), (0, 1, 2), (2, 0, 1)), ((0, 1, 2), (1, 1, 1), (2, 1, 0)))
# A ONE alone.
OWN_ONE = ("own", ((0, 0), (0, 0)), ((0, 1), (1, 1)))
# A NOUGHT alone, and less.
OWN_NOUGHT = OWN_THREE
OWNS = (OWN_TWO, OWN_SIX, OWN_FOUR, OWN_THREE, OWN_BARE, OWN_OR, OWN_LESS, OWN_ONE)
PLAIN_KINDS = (("whole",), ("share",), ("root", 2), ("root", 60 - 1), ("rest", 2), ("rest", 7), ("rest", 12),
               ("about", 1), ("about", 2), ("about", 3), ("sure", 0), ("sure", 6))
ALL_KINDS = PLAIN_KINDS + OWNS


def number(value):
    """Make the term of a number."""
    return ("number", value)


def plus(one, other):
    """Make the term of a sum."""
    return ("plus", one, other)


def less(one, other):
    """Make the term of a difference."""
    return ("less", one, other)


def times(one, other):
    """Make the term of a product."""
    return ("times", one, other)


def nested(deep, leaf=A):
    """Make a term so deep, with as few parts as may be."""
    term = leaf
    for _ in range(deep - 1):
        term = plus(leaf, term)
    return term


def wide(parts, leaf=A):
    """Make a term of so many parts, an odd number, as little deep as may be."""
    if parts == 1:
        return leaf
    half = (parts - 1) // 2
    left = half if half % 2 == 1 else half - 1
    return times(wide(left, leaf), wide(parts - 1 - left, leaf))


def stands_for(kind, value):
    """Tell what a number stands for in a kind that isn't an own one."""
    share = (value, 1)
    if kind[0] == "rest":
        return value % kind[1]
    if kind[0] == "about":
        return (value, 0)
    return {"whole": value, "share": share, "root": (share, (0, 1)), "sure": (share, share)}[kind[0]]


def still(table):
    """Tell the number by which all others stay as they are, None without one."""
    many = range(len(table))
    return next((one for one in many if all(table[one][x] == x == table[x][one] for x in many)), None)


def has_less(kind):
    """Tell whether an own kind has less."""
    return all(sorted(column) == list(range(len(kind[1]))) for column in zip(*kind[1]))


def own_stands(kind, value):
    """Tell what a number stands for in an own kind, None where it lacks it."""
    nought, one = still(kind[1]), still(kind[2])
    if value == 0:
        return nought
    if value < 0:
        come = own_stands(kind, -value)
        if nought is None or come is None or not has_less(kind):
            return None
        return next(worth for worth in range(len(kind[1])) if kind[1][worth][come] == nought)
    if value == 1 or one is None:
        return one
    return kind[1][own_stands(kind, value - 1)][one]


def stands(kind, value):
    """Tell what a number stands for, None where the kind lacks it."""
    return own_stands(kind, value) if kind[0] == "own" else stands_for(kind, value)


def lacks_found(kind, term):
    """Tell whether a kind lacks a term."""
    if term[0] == "name":
        return False
    if term[0] == "number":
        return stands(kind, term[1]) is None
    if term[0] == "less" and kind[0] == "own" and not has_less(kind):
        return True
    return lacks_found(kind, term[1]) or lacks_found(kind, term[2])


def told_found(kind, term, worths):
    """Tell what a term tells by worths."""
    if term[0] == "name":
        return worths[term[1]]
    if term[0] == "number":
        return stands(kind, term[1])
    return deed_done(kind, term[0], told_found(kind, term[1], worths), told_found(kind, term[2], worths))


# What is no TERM.
BAD_TERMS = [("name", "A"), ("name", ""), ("name", "abcdefg"), ("name", 0), ("name",), ("name", "a", "b"),
             ["name", "a"], ("number", 10), ("number", -10), ("number", True), ("number", "1"), ("number",),
             ("number", 1, 2), ("number", None), ("over", A, B), ("Plus", A, B), ("plus", A), ("plus", A, B, C),
             ("plus",),
             ("plus", A, "b"), ("plus", "a", B), ("plus", A, ("over", A, B)), ("plus", A, None), ("times", [A], B),
             ("less", A, list(B)), ["plus", A, B], (A, B), (A,), ("a",), "a", ("up", "a", 1), ("name", ("name", "a")),
             plus(plus(A, B), plus(C, D)), nested(9), wide(31), nested(20), (None, A, B), (("plus",), A, B),
             ("worth", 1)]


class TermCase(Case):
    def refuses_terms(self, function, *aheads, behind=()):
        """What is no TERM is refused with BadTerm."""
        for ahead in aheads or ((),):
            for term in BAD_TERMS + THINGS:
                self.refused(BadTerm, function, *ahead, term, *behind)

    def refuses_no_kinds(self, function, *behinds):
        """What is no KIND is refused with BadKind, whatever stands behind it."""
        for behind in behinds:
            for kind in (None, True, "whole", ["whole"], ("whole", 1), ("root", 4), ("rest", True), ("sure", 7), (),
                         OWN_TWO[:2], OWN_TWO + (1,), ("own", OWN_TWO[1], OWN_SIX[2])):
                self.refused(BadKind, function, kind, *behind)
        good = ALL_KINDS + (("root", 5), ("rest", 5))
        self.refuses_others(BadKind, function, lambda thing: type(thing) is tuple and thing in good, behind=behinds[0])
