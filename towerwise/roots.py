"""Deeds and order of numbers with a root: (A, B), A and B times the root of D."""

from towerwise.fractions import NOUGHT, compared, difference_of, fraction_deed, product_of, quotient_of, sum_of
from towerwise.kinds import need_kind_of
from towerwise.refusals import need_deed_of, need_small, need_worths_of
from towerwise.worths import need_worth


def root_deed(kind, deed, one, other):
    """Tell the worth that comes of two worths of a root."""
    need_deed_of(kind, ("root",), deed, one, other)
    return root_done(kind, deed, one, other)


def root_done(kind, deed, one, other):
    """Tell the same of a kind, worths and one of the four deeds that are known to be good."""
    if deed == "times":
        told = _product(kind[1], one, other)
    elif deed == "over":
        told = _quotient(kind[1], one, other)
    else:
        told = (fraction_deed(deed, one[0], other[0]), fraction_deed(deed, one[1], other[1]))
    need_small(told)
    return told


def _product(root, one, other):
    """Tell one times other, however great."""
    first = sum_of(product_of(one[0], other[0]), product_of((root, 1), product_of(one[1], other[1])))
    return (first, sum_of(product_of(one[0], other[1]), product_of(one[1], other[0])))


def _quotient(root, one, other):
    """Tell one over other, however great: both times other turned, so that other becomes a FRACTION."""
    first, second = _product(root, one, _turned(other))
    # No root of D is a fraction, so this is nought, and refused, just where other is.
    norm = _norm(root, other)
    return (quotient_of(first, norm), quotient_of(second, norm))


def _turned(worth):
    """Tell a worth with the contrary of its second share."""
    return (worth[0], difference_of(NOUGHT, worth[1]))


def _norm(root, worth):
    """Tell a worth times itself turned: nothing is left of the root."""
    return _product(root, worth, _turned(worth))[0]


def _sign(root, worth):
    """Tell -1, 0 or 1 where a worth is below nought, nought, above.

    A square with its part's own sign rises as the part does, so the two squares outweigh each other as the parts do.
    """
    first = _signed_square(worth[0])
    second = product_of((root, 1), _signed_square(worth[1]))
    return compared(sum_of(first, second), NOUGHT)


def _signed_square(part):
    """Tell a FRACTION's square, below nought where it is so itself."""
    return (part[0] * abs(part[0]), part[1] * part[1])


def root_sign(kind, worth):
    """Tell -1, 0 or 1 where a worth is below nought, nought, above."""
    _need_one(kind, worth)
    return _sign(kind[1], worth)


def root_order(kind, one, other):
    """Tell -1, 0 or 1 where one is less than other, the same, greater."""
    need_worths_of(kind, ("root",), one, other)
    return root_compared(kind, one, other)


def root_compared(kind, one, other):
    """Tell the same of a kind and worths that are known to be good."""
    return _sign(kind[1], (difference_of(one[0], other[0]), difference_of(one[1], other[1])))


def turned_root(kind, worth):
    """Tell (A, - B) of (A, B)."""
    _need_one(kind, worth)
    return _turned(worth)


def root_norm(kind, worth):
    """Tell the FRACTION that comes of a worth times itself turned, however great."""
    _need_one(kind, worth)
    return _norm(kind[1], worth)


def _need_one(kind, worth):
    """Refuse what is no kind with a root, then what is none of its worths."""
    need_kind_of(kind, ("root",))
    need_worth(kind, worth)
