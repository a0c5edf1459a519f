"""CARDS: what a way does, told so that two ways of the same ends do the same just where their cards are alike."""

from towerwise.going import need_way
from towerwise.kinds import FINITE, count_worths
from towerwise.towers import need_tower


def card_of(tower, way):
    """Tell the CARD of a WAY."""
    need_tower(tower)
    return _card_of(tower, way)


def card_of_step(tower, one, other):
    """Tell the CARD of the step from one kind to another."""
    need_tower(tower)
    return _card_of(tower, (one, other))


def _card_of(tower, way):
    """Tell the CARD of a WAY of a good tower."""
    steps = need_way(tower, way)
    return card_along(tower[0], way[0], steps)


def card_along(kinds, number, steps):
    """Tell the CARD of going from a kind along steps: that of staying, and one behind the other those of the steps."""
    card = _staying(kinds[number])
    for one, other, how in steps:
        card = card_behind(card, step_card(kinds[one], kinds[other], how))
    return card


def _staying(kind):
    """Tell the CARD of the way from a kind to itself."""
    if kind[0] in FINITE:
        return ("row", tuple(range(count_worths(kind))))
    if kind[0] == "root":
        return ("places", ())
    return ("figures", (kind[1],) if kind[0] == "about" else ())


def step_card(one, other, how):
    """Tell the CARD of a step between two kinds."""
    if how is not None:
        return ("row", how)
    if other[0] == "rest":
        if one[0] == "whole":
            return ("round", tuple(range(other[1])))
        return ("row", tuple([worth % other[1] for worth in range(one[1])]))
    if one[0] == "root":
        return ("places", (other[1],))
    figures = [kind[1] for kind in (one, other) if kind[0] == "about"]
    return ("figures", _falling(figures))


def card_behind(card, other):
    """Tell the CARD of a way that has one card with a way behind it that has the other."""
    word, row = card
    if word == "row":
        return ("row", _through(row, other[1]))
    if word == "round":
        return ("round", _shortest(_through(row, other[1])))
    if word == "places":
        # A root goes to sure bounds, which no step changes any more.
        return card if row != () else other
    if other[0] == "round":
        # Ahead of it there was only staying at the whole numbers.
        return other
    return ("figures", _falling(row + other[1])) if other[0] == "figures" else card


def _through(row, other):
    """Tell what stands in another row at the places that a row tells."""
    return tuple([other[worth] for worth in row])


def _shortest(row):
    """Tell the shortest row that goes round as this one does."""
    for many in range(1, len(row)):
        if row[:many] * (len(row) // many) == row:
            return row[:many]
    return row


def _falling(figures):
    """Tell those of some figures that are fewer than all ahead of them."""
    told = ()
    for many in figures:
        if told == () or many < told[-1]:
            told = told + (many,)
    return told


def by_card(card, worth):
    """Tell what a worth of a finite kind, or a whole number from 0 on, comes to by a card with a row."""
    word, row = card
    return row[worth] if word == "row" else row[worth % len(row)]
