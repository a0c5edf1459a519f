"""Which deeds a kind has, and what comes of one in any kind."""

from towerwise.about import about_done
from towerwise.backs import is_prime
from towerwise.errors import NoDeed
from towerwise.exact import exact_done
from towerwise.kinds import need_kind
from towerwise.own import own_done, own_has
from towerwise.roots import root_done
from towerwise.sure import sure_done
from towerwise.words import is_deed
from towerwise.worths import need_among_worths


def has_deed(kind, deed):
    """Tell whether a kind HAS one of the four deeds."""
    need_kind(kind)
    need_deed(deed)
    return kind_has(kind, deed)


def need_deed(thing):
    """Refuse with NoDeed what is none of the four deeds."""
    if not is_deed(thing):
        raise NoDeed("this is no deed")


def kind_has(kind, deed):
    """Tell whether a kind has a deed, both known to be good."""
    if kind[0] == "own":
        return own_has(kind, deed)
    if deed != "over":
        return True
    return kind[0] != "whole" and (kind[0] != "rest" or is_prime(kind[1]))


def deed_done(kind, deed, one, other):
    """Tell the worth that comes of two worths of any kind."""
    need_kind(kind)
    need_among_worths(kind, one)
    need_among_worths(kind, other)
    need_deed(deed)
    return done(kind, deed, one, other)


def done(kind, deed, one, other):
    """Tell the same of a kind, worths and one of the four deeds that are known to be good."""
    if kind[0] == "root":
        return root_done(kind, deed, one, other)
    if kind[0] == "about":
        return about_done(kind, deed, one, other)
    if kind[0] == "sure":
        return sure_done(deed, one, other)
    if kind[0] == "own":
        return own_done(kind, deed, one, other)
    return exact_done(kind, deed, one, other)
