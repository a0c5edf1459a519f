"""Deeds and order of numbers about so many figures."""

from towerwise.figures import nearest, number_told
from towerwise.fractions import compared, fraction_deed
from towerwise.refusals import need_deed_of, need_worths_of


def about_deed(kind, deed, one, other):
    """Tell the very number that comes of two worths about so many figures, ROUNDED to as many."""
    need_deed_of(kind, ("about",), deed, one, other)
    return about_done(kind, deed, one, other)


def about_done(kind, deed, one, other):
    """Tell the same of a kind, worths and one of the four deeds that are known to be good."""
    return nearest(kind[1], fraction_deed(deed, number_told(one), number_told(other)))


def about_order(kind, one, other):
    """Tell -1, 0 or 1 where one is less than other, the same, greater."""
    need_worths_of(kind, ("about",), one, other)
    return compared(number_told(one), number_told(other))
