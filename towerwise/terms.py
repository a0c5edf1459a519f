"""TERMS and EQUATIONS: which things are one, and what they tell by worths of their names."""

from towerwise.deeds import done, kind_has
from towerwise.errors import BadNumber, BadTerm, BadWorth, Lacking
from towerwise.going import lifted
from towerwise.kinds import need_kind
from towerwise.own import nought_of, one_of
from towerwise.words import is_among, is_name
from towerwise.worths import has_worth

WHOLE = ("whole",)
TERM_DEEDS = ("plus", "less", "times")
MOST_NUMBER = 9
MOST_PARTS = 30
MOST_DEEP = 8
MOST_NAMES = 3


def is_term(thing):
    """Tell whether thing is a TERM."""
    parts = _parts_of(thing, MOST_DEEP)
    return 1 <= len(parts) <= MOST_PARTS and len(_names_among(parts)) <= MOST_NAMES


def is_equation(thing):
    """Tell whether thing is an EQUATION."""
    if not isinstance(thing, tuple) or len(thing) != 2 or not is_term(thing[0]) or not is_term(thing[1]):
        return False
    return len(names_of_equation(thing)) <= MOST_NAMES


def need_term(thing):
    """Refuse with BadTerm what is no TERM."""
    if not is_term(thing):
        raise BadTerm("this is no term")


def need_equation(thing):
    """Refuse with BadTerm what is no EQUATION."""
    if not is_equation(thing):
        raise BadTerm("this is no equation")


def _parts_of(thing, deep):
    """List the parts of what is told as a TERM is, at most so deep: itself and all within; none of all else."""
    if deep == 0 or not isinstance(thing, tuple) or not 2 <= len(thing) <= 3 or not isinstance(thing[0], str):
        return []
    if len(thing) == 2:
        word, told = thing
        good = word == "name" and is_name(told) or word == "number" and is_among(told, -MOST_NUMBER, MOST_NUMBER)
        return [thing] if good else []
    if thing[0] not in TERM_DEEDS:
        return []
    left = _parts_of(thing[1], deep - 1)
    right = _parts_of(thing[2], deep - 1) if left else []
    return [thing] + left + right if right else []


def _names_among(parts):
    """List, rising, the names among the parts of terms."""
    return sorted(set([part[1] for part in parts if part[0] == "name"]))


def names_in(term):
    """List, rising, the names of a TERM."""
    need_term(term)
    return _names_among(parts_in(term))


def names_of_equation(equation):
    """List, rising, the names of both sides, TERMS that are known to be good."""
    return _names_among(parts_in(equation[0]) + parts_in(equation[1]))


def parts_in(term):
    """List the parts of a TERM that is known to be good."""
    return _parts_of(term, MOST_DEEP)


def number_at(kind, number):
    """Tell what a number from -9 to 9 stands for in a kind."""
    need_kind(kind)
    if not is_among(number, -MOST_NUMBER, MOST_NUMBER):
        raise BadNumber("numbers in terms are from -9 to 9")
    if lacks_number(kind, number):
        raise Lacking("the kind has nothing for which this number stands")
    return number_in_kind(kind, number)


def lacks_number(kind, number):
    """Tell whether a good kind has no NOUGHT, no ONE or no less for what a number stands for."""
    if kind[0] != "own":
        return False
    if number <= 0 and nought_of(kind) is None or number != 0 and one_of(kind) is None:
        return True
    return number < 0 and not kind_has(kind, "less")


def number_in_kind(kind, number):
    """Tell what a number stands for in a good kind that doesn't lack it."""
    if kind[0] != "own":
        return number if kind[0] == "whole" else lifted(WHOLE, kind, None, number)
    if number < 0:
        return done(kind, "less", nought_of(kind), number_in_kind(kind, -number))
    if number == 0:
        return nought_of(kind)
    one = told = one_of(kind)
    for _ in range(number - 1):
        told = kind[1][told][one]
    return told


def lacks_term(kind, term):
    """Tell whether a kind LACKS a TERM."""
    need_kind(kind)
    need_term(term)
    return lacks(kind, term)


def lacks(kind, term):
    """Tell whether a kind LACKS a TERM, both known to be good."""
    if kind[0] != "own":
        return False
    parts = parts_in(term)
    if any([part[0] == "less" for part in parts]) and not kind_has(kind, "less"):
        return True
    return any([part[0] == "number" and lacks_number(kind, part[1]) for part in parts])


def term_at(kind, term, worths):
    """Tell what a TERM tells by a dict with a worth of a kind for each of its names."""
    need_kind(kind)
    need_term(term)
    if not isinstance(worths, dict):
        raise BadWorth("a dict with a worth for each name is wanted")
    for name in _names_among(parts_in(term)):
        if name not in worths or not has_worth(kind, worths[name]):
            raise BadWorth("this is no worth of the kind for each name")
    if lacks(kind, term):
        raise Lacking("the kind lacks this term")
    return _told_by(kind, term, worths)


def _told_by(kind, term, worths):
    """Tell what a TERM tells, all known to be good; refuse with TooGreat alone."""
    if term[0] == "name":
        return worths[term[1]]
    if term[0] == "number":
        return number_in_kind(kind, term[1])
    return done(kind, term[0], _told_by(kind, term[1], worths), _told_by(kind, term[2], worths))
