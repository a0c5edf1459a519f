"""Refusals that several files share, each in the order in which they are due."""

from towerwise.errors import NoDeed, TooGreat
from towerwise.fractions import is_great
from towerwise.kinds import need_kind_of
from towerwise.words import is_deed
from towerwise.worths import need_among_worths


def need_worths_of(kind, words, one, other):
    """Refuse a kind whose word is none of these, then what is none of its worths."""
    need_kind_of(kind, words)
    need_among_worths(kind, one)
    need_among_worths(kind, other)


def need_deed_of(kind, words, deed, one, other):
    """Refuse likewise, then what is none of the four deeds."""
    need_worths_of(kind, words, one, other)
    if not is_deed(deed):
        raise NoDeed("this is no deed")


def need_small(parts):
    """Refuse with TooGreat where one of these FRACTIONS is TOO GREAT."""
    for part in parts:
        if is_great(part):
            raise TooGreat("what comes is too great")
