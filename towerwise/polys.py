"""POLYS: what terms come to by the usual rules."""

from towerwise.terms import need_term


def poly_of(term):
    """Tell the POLY of a TERM."""
    need_term(term)
    return poly_told(term)


def poly_told(term):
    """Tell the POLY of a TERM that is known to be good."""
    return tuple(sorted(_numbers_of(term).items()))


def _numbers_of(term):
    """Tell a dict of the number of each POWERS in what a term comes to, no number 0 among them."""
    word = term[0]
    if word == "name":
        return {((term[1], 1),): 1}
    if word == "number":
        return {(): term[1]} if term[1] != 0 else {}
    one, other = _numbers_of(term[1]), _numbers_of(term[2])
    return _product(one, other) if word == "times" else _added(one, other, 1 if word == "plus" else -1)


def _added(one, other, sign):
    """Tell one and, so many times, other."""
    found = dict(one)
    for powers, number in other.items():
        found[powers] = found.get(powers, 0) + sign * number
    return {powers: number for powers, number in found.items() if number != 0}


def _product(one, other):
    """Tell one times other."""
    found = {}
    for left, number in one.items():
        for right, times in other.items():
            powers = _joined(left, right)
            found[powers] = found.get(powers, 0) + number * times
    return {powers: number for powers, number in found.items() if number != 0}


def _joined(left, right):
    """Tell the POWERS of a product."""
    found = {name: how for name, how in left}
    for name, how in right:
        found[name] = found.get(name, 0) + how
    return tuple(sorted(found.items()))
