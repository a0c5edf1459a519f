"""Where two ways of the same ends tell otherwise."""

from towerwise.cards import card_along, card_behind, step_card
from towerwise.errors import BadWay
from towerwise.figures import nearest, rounded_through
from towerwise.fractions import NOUGHT
from towerwise.going import need_way
from towerwise.paths import numbers_in
from towerwise.towers import need_tower, plan_of

# Of whole numbers from 0 on each of these is the least that some two unlike rows of figures leave otherwise; there are
# eight such rows in all, and any two of them part at one of these.
PARTINGS = (11, 101, 145, 1001, 1045, 1445, 1495)


def differ_at(tower, one, other):
    """Tell the worth at which two ways of the same ends DIFFER, None where they tell the same of all."""
    need_tower(tower)
    ahead, behind = need_way(tower, one), need_way(tower, other)
    if one[0] != other[0] or one[-1] != other[-1]:
        raise BadWay("these ways have unlike ends")
    kinds = tower[0]
    return _parting(kinds[one[0]], card_along(kinds, one[0], ahead), card_along(kinds, one[0], behind))


def uneven_ways(tower):
    """Tell the first two ways with unlike CARDS and where they DIFFER, None of an EVEN tower."""
    leads, above = plan_of(tower)
    told = cards_told(tower[0], leads, above)
    for pair in sorted(told):
        if len(told[pair]) > 1:
            (card, way), (other, second) = list(told[pair].items())[:2]
            return (way, second, _parting(tower[0][pair[0]], card, other))
    return None


def _parting(kind, card, other):
    """Tell the worth of a kind at which two ways with these CARDS DIFFER, None where the cards are alike."""
    if card == other:
        return None
    word, row = card
    if word == "row":
        return _first_unlike(row, other[1])
    if word == "round":
        # Behind as many numbers both rows begin anew.
        many = len(row) * len(other[1])
        return _first_unlike(_gone_round(row, many), _gone_round(other[1], many))
    if word == "places":
        return (NOUGHT, (1, 1))
    return _worth_of(kind, _parting_number(row, other[1]))


def _first_unlike(row, other):
    """Tell the first place at which two unlike rows of one length differ."""
    return [one == another for one, another in zip(row, other)].index(False)


def _gone_round(row, many):
    """Tell the first so many numbers of a row that goes round."""
    return row * (many // len(row))


def _parting_number(row, other):
    """Tell the least whole number of which two unlike rows of figures leave unlike numbers."""
    for number in PARTINGS:
        if rounded_through(row, (number, 1)) != rounded_through(other, (number, 1)):
            return number
    return None


def _worth_of(kind, number):
    """Tell a whole number as a worth of a whole, share or about kind."""
    if kind[0] == "whole":
        return number
    return (number, 1) if kind[0] == "share" else nearest(kind[1], (number, 1))


def cards_told(kinds, leads, above):
    """Tell for each two kinds with ways from the one to the other all CARDS of these ways, each with its first way.

    They are put together from what is told of the kinds to which steps lead, so that no way is gone twice.
    """
    told = {}
    # Kinds above a kind have some of its bits and no others, so they come ahead of it.
    for _, one in sorted([(bits, number) for number, bits in enumerate(above)]):
        stepped = [(other, step_card(kinds[one], kinds[other], how)) for _, other, how in leads[one]]
        for other in numbers_in(above, above[one]):
            if other != one:
                told[(one, other)] = _cards_on(one, other, stepped, told)
    return told


def _cards_on(one, other, stepped, told):
    """Tell the CARDS of all ways from one to other by its steps and what is told from the kinds to which they lead."""
    found = {}
    for middle, card in stepped:
        if middle == other:
            found.setdefault(card, (one, other))
        for behind, way in told.get((middle, other), {}).items():
            found.setdefault(card_behind(card, behind), (one,) + way)
    return found
