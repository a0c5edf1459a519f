"""KINDS: which things are one, and what holds of it."""

from towerwise.errors import BadKind, BadNumber
from towerwise.words import is_whole

# All kinds with a number behind their word: so they are found at once, where towers are looked at with each question.
NUMBERED = {
    ("root", 2): True, ("root", 3): True, ("root", 5): True, ("root", 6): True, ("root", 7): True, ("root", 10): True,
    ("root", 11): True, ("root", 13): True, ("root", 14): True, ("root", 15): True, ("root", 17): True,
    ("root", 19): True, ("root", 21): True, ("root", 22): True, ("root", 23): True, ("root", 26): True,
    ("root", 29): True, ("root", 30): True, ("root", 31): True, ("root", 33): True, ("root", 34): True,
    ("root", 35): True, ("root", 37): True, ("root", 38): True, ("root", 39): True, ("root", 41): True,
    ("root", 42): True, ("root", 43): True, ("root", 46): True, ("root", 47): True, ("root", 51): True,
    ("root", 53): True, ("root", 55): True, ("root", 57): True, ("root", 58): True, ("root", 59): True,
    ("rest", 2): True, ("rest", 3): True, ("rest", 4): True, ("rest", 5): True, ("rest", 6): True, ("rest", 7): True,
    ("rest", 8): True, ("rest", 9): True, ("rest", 10): True, ("rest", 11): True, ("rest", 12): True,
    ("about", 1): True, ("about", 2): True, ("about", 3): True, ("sure", 0): True, ("sure", 1): True,
    ("sure", 2): True, ("sure", 3): True, ("sure", 4): True, ("sure", 5): True, ("sure", 6): True,
}
FINITE = ("rest", "own")
# What fills a row of so many numbers up to six, by how many there are.
FILLING = ((), (), (0, 0, 0, 0), (0, 0, 0), (0, 0), (0,), ())


def is_kind(thing):
    """Tell whether thing is a KIND."""
    if not isinstance(thing, tuple):
        return False
    many = len(thing)
    if many == 2:
        word, number = thing
        return isinstance(word, str) and (type(number) is int or is_whole(number)) and (word, number) in NUMBERED
    if many == 0 or not isinstance(thing[0], str):
        return False
    if many == 1:
        return thing[0] in ("whole", "share")
    return many == 3 and thing[0] == "own" and _are_tables(thing[1], thing[2])


def _are_tables(plus, times):
    """Tell whether both are tables, of one size."""
    if not isinstance(plus, tuple) or not isinstance(times, tuple):
        return False
    many = len(plus)
    return 2 <= many <= 6 and len(times) == many and _are_rows(plus + times, many)


def _are_rows(rows, many):
    """Tell whether a tuple holds nothing but tuples of so many numbers, each from 0 to many - 1.

    Towers are looked at with each question, and most of that look goes into tables: so the six numbers are looked at
    by name here, and is_row is asked only where they aren't plainly good.
    """
    filling = FILLING[many]
    for row in rows:
        if not isinstance(row, tuple) or len(row) != many:
            return False
        one, two, three, four, five, six = row + filling
        if (type(one) is int and type(two) is int and type(three) is int and type(four) is int and type(five) is int
                and type(six) is int):
            if (one < 0 or one >= many or two < 0 or two >= many or three < 0 or three >= many or four < 0
                    or four >= many or five < 0 or five >= many or six < 0 or six >= many):
                return False
        elif not is_row(row, many, many):
            return False
    return True


def is_row(thing, length, many):
    """Tell whether thing is a tuple of so many numbers, each from 0 to many - 1."""
    if not isinstance(thing, tuple) or len(thing) != length:
        return False
    for number in thing:
        if type(number) is not int and not is_whole(number) or not 0 <= number < many:
            return False
    return True


def need_kind(thing):
    """Refuse with BadKind what is no KIND."""
    if not is_kind(thing):
        raise BadKind("this is no kind")


def need_kind_of(kind, words):
    """Refuse with BadKind what is no KIND, or one whose word is none of these."""
    need_kind(kind)
    if kind[0] not in words:
        raise BadKind("a kind of another word is wanted here")


def is_finite(kind):
    """Tell whether a kind has only so many worths."""
    need_kind(kind)
    return kind[0] in FINITE


def many_worths(kind):
    """Tell how many worths a FINITE kind has."""
    if not is_finite(kind):
        raise BadNumber("this kind has no last worth")
    return count_worths(kind)


def count_worths(kind):
    """Tell how many worths a good kind has that is known to be FINITE."""
    return kind[1] if kind[0] == "rest" else len(kind[1])
