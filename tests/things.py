"""What several tests share: things of every kind, and a test case that looks closely."""

import unittest

from towerwise.errors import TowerError

BINARY = (((0, 1), (1, 0)), ((0, 0), (0, 1)))
OWN_TWO = ("own",) + BINARY
OWN_SIX = ("own",
           tuple(tuple((one + other) % 6 for other in range(6)) for one in range(6)),
           tuple(tuple(one * other % 6 for other in range(6)) for one in range(6)))

# One kind or more of each of the seven.
KINDS = [("whole",), ("share",), ("root", 2), ("root", 59), ("rest", 2), ("rest", 12), ("about", 1),
         ("about", 3), ("sure", 0), ("sure", 6), OWN_TWO, OWN_SIX]


def plain_function():
    """Stand for functions among the things."""


class Plain:
    """Stand for objects and classes among the things."""


THINGS = [
    None, True, False, 0, 1, 2, -1, -2, 5, 400, 401, 10 ** 60, -10 ** 60, 10 ** 3999, "", " ", "0", "1", "-1", "a",
    "b", "whole", "share", "plus", "over", "a b", "a\n", "\n", b"", b"1", b"a", b"whole", b"plus",
    [], [0], [0, 1], [(0, 1), (0, 1)], [("whole",)], ["whole"], ["root", 2], (), (0,), (1,), (0, 0), (0, 1), (1, 0),
    (1, 1), (2, 4), (1, -1), (10, 0), (0, 5), (True, 1), (1, True), (False, 1), (0, False), (1, 2, 3), (None, None),
    ("0", "1"), ([0], [1]), ((0, 1),), ((0, 1), (0, 1)), ((1, 1), (0, 1)), ((0, 1), (0, 1), (0, 1)),
    ((0, 1), [0, 1]), ([0, 1], (0, 1)), ((0, 1), (2, 4)), ((0, 1), None), ((True, 1), (True, 1)),
    ("whole",), ("share",), ("whole", 1), ("share", None), ("root", 2), ("root", 4), ("root", True), ("rest", 2),
    ("rest", "2"), ("about", 3), ("sure", 6), ("own",), (("whole",),), ("Whole",), ("",), (None,), {}, {0: 1},
    {"whole": 1}, {(0, 1): (0, 1)}, set(), {1}, {"a"}, frozenset(), frozenset({1}), object(), Plain(), Plain,
    plain_function, len, int, ValueError, TowerError("a"), range(2), [[[]]], (((),),), OWN_TWO, KINDS,
]


def same(one, other):
    """Tell whether both are the same, lists no tuples, True no 1, all the way down."""
    if one is other:
        return True
    if type(one) is not type(other):
        return False
    if isinstance(one, (list, tuple)):
        return len(one) == len(other) and all(same(left, right) for left, right in zip(one, other))
    if isinstance(one, dict):
        return same(list(one.items()), list(other.items()))
    return one == other


def copied(thing):
    """Copy lists, dicts and sets, and tuples with such within, all the way down; other things don't change."""
    if isinstance(thing, tuple):
        parts = [copied(part) for part in thing]
        return tuple(parts) if any(part is not old for part, old in zip(parts, thing)) else thing
    if isinstance(thing, (list, set)):
        return type(thing)([copied(part) for part in thing])
    if isinstance(thing, dict):
        return {key: copied(part) for key, part in thing.items()}
    return thing


class Case(unittest.TestCase):
    """A test case that tells True from 1, tuples from lists, and each refusal from those like it."""

    def told(self, wanted, function, *handed):
        """The function tells just what is wanted, each time, and changes nothing that is handed in."""
        before = copied(handed)
        for _ in range(2):
            answer = function(*handed)
            if not same(wanted, answer):
                self.fail(f"{function.__name__}{shown(handed)} told {shown(answer)}, wanted {shown(wanted)}")
            if not same(before, handed):
                self.fail(f"{function.__name__}{shown(before)} changed what was handed in")

    def refused(self, error, function, *handed):
        """The function refuses with just this class of error, each time, and changes nothing that is handed in."""
        before = copied(handed)
        for _ in range(2):
            try:
                answer = function(*handed)
            except TowerError as caught:
                if type(caught) is not error:
                    self.fail(f"{function.__name__}{shown(handed)}: {type(caught).__name__}, not {error.__name__}")
            else:
                self.fail(f"{function.__name__}{shown(handed)} told {shown(answer)}, not {error.__name__}")
            if not same(before, handed):
                self.fail(f"{function.__name__}{shown(before)} changed what was handed in")

    def refused_with(self, error, fields, function, *handed):
        """The function refuses so, and the error has just these fields."""
        self.refused(error, function, *handed)
        try:
            function(*handed)
        except TowerError as caught:
            if not same(fields, vars(caught)):
                self.fail(f"{function.__name__}{shown(handed)}: {vars(caught)}, wanted {fields}")

    def refuses_others(self, error, function, is_good, ahead=(), behind=()):
        """Of all things that aren't good at one place each is refused so; good ones stand on either side."""
        bad = [thing for thing in THINGS if not is_good(thing)]
        self.assertGreater(len(bad), 40)
        for thing in bad:
            self.refused(error, function, *ahead, thing, *behind)


def shown(thing):
    """Write a thing for a message, not at all its length."""
    try:
        text = repr(thing)
    except ValueError:
        return "(too many figures to show)"
    return text if len(text) < 300 else text[:300] + ".."


def whole(thing):
    """Tell whether thing is a whole number."""
    return type(thing) is int
