"""KINDS: which things are one, and what holds of it."""

from towerwise.errors import BadKind, BadNumber
from towerwise.words import is_among

# The kinds that have a number behind their word: its least and its greatest one.
BOUNDS = {"root": (2, 60), "rest": (2, 12), "about": (1, 3), "sure": (0, 6)}
FINITE = ("rest", "own")


def is_kind(thing):
    """Tell whether thing is a KIND."""
    if not isinstance(thing, tuple) or len(thing) == 0 or not isinstance(thing[0], str):
        return False
    if len(thing) == 1:
        return thing[0] in ("whole", "share")
    if len(thing) == 2:
        return _has_number(thing[0], thing[1])
    return thing[0] == "own" and len(thing) == 3 and _are_tables(thing[1], thing[2])


def _has_number(word, number):
    """Tell whether a kind of that word may have that number."""
    if word not in BOUNDS:
        return False
    least, most = BOUNDS[word]
    if not is_among(number, least, most):
        return False
    return word != "root" or not _has_square(number)


def _has_square(number):
    """Tell whether a square but 1 divides a number up to 60; greater squares of primes are beyond it."""
    return number % 4 == 0 or number % 9 == 0 or number % 25 == 0 or number % 49 == 0


def _are_tables(plus, times):
    """Tell whether both are tables, of one size."""
    return _is_table(plus) and _is_table(times) and len(plus) == len(times)


def _is_table(thing):
    """Tell whether thing is a tuple of N rows, each a tuple of N numbers from 0 to N - 1."""
    if not isinstance(thing, tuple) or not 2 <= len(thing) <= 6:
        return False
    return all(is_row(row, len(thing), len(thing)) for row in thing)


def is_row(thing, length, many):
    """Tell whether thing is a tuple of so many numbers, each from 0 to many - 1."""
    if not isinstance(thing, tuple) or len(thing) != length:
        return False
    for number in thing:
        # What is_among does, written out: towers of own kinds have rows by the dozen, looked at with each question.
        if not isinstance(number, int) or isinstance(number, bool) or not 0 <= number < many:
            return False
    return True


def need_kind(thing):
    """Refuse with BadKind what is no KIND."""
    if not is_kind(thing):
        raise BadKind("this is no kind")


def need_kind_of(kind, words):
    """Refuse with BadKind what is no KIND, or one whose word is none of these."""
    need_kind(kind)
    if kind[0] not in words:
        raise BadKind("a kind of another word is wanted here")


def is_finite(kind):
    """Tell whether a kind has only so many worths."""
    need_kind(kind)
    return kind[0] in FINITE


def many_worths(kind):
    """Tell how many worths a FINITE kind has."""
    if not is_finite(kind):
        raise BadNumber("this kind has no last worth")
    return count_worths(kind)


def count_worths(kind):
    """Tell how many worths a good kind has that is known to be FINITE."""
    return kind[1] if kind[0] == "rest" else len(kind[1])
