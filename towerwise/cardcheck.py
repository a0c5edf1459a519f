"""Papers that a tower is EVEN, and whether one is right: looking at a paper goes along steps alone."""

from towerwise.cards import card_behind, step_card
from towerwise.differ import cards_told
from towerwise.errors import BadPaper, Lacking
from towerwise.kinds import FINITE, count_worths
from towerwise.paths import numbers_in
from towerwise.towers import plan_of
from towerwise.words import is_among, is_whole

MOST_IN_ROW = 12


def even_paper(tower):
    """Tell the paper of an EVEN tower."""
    leads, above = plan_of(tower)
    told = cards_told(tower[0], leads, above)
    if any([len(cards) > 1 for cards in told.values()]):
        raise Lacking("the tower is not even, so it has no paper")
    return tuple([pair + tuple(told[pair]) for pair in sorted(told)])


def check_even(tower, paper):
    """Refuse with BadPaper what is no right paper that a tower is EVEN."""
    leads, above = plan_of(tower)
    if not _is_paper(_pairs_of(above), paper):
        raise BadPaper(())
    stepped = [[(step[1], _card_of(tower[0], step)) for step in steps] for steps in leads]
    # A card that can't be that of its ends might not go behind a step's card at all: it is never looked at so.
    cards = {row[:2]: row[2] if _fits(tower[0], row) else None for row in paper}
    for place, row in enumerate(paper):
        if not _is_right(stepped, cards, row):
            raise BadPaper((place,))


def _pairs_of(above):
    """List, rising, the pairs (I, J) with J above I but I itself."""
    return [(one, other) for one, bits in enumerate(above) for other in numbers_in(above, bits) if other != one]


def _is_paper(pairs, thing):
    """Tell whether thing is a tuple of rows with a CARD for each of these pairs, whatever the cards tell."""
    if not isinstance(thing, tuple) or len(thing) != len(pairs):
        return False
    return all([_is_row_of(pair, row) for pair, row in zip(pairs, thing)])


def _is_row_of(pair, thing):
    """Tell whether thing is a tuple of the two numbers of a pair and a CARD."""
    if not isinstance(thing, tuple) or len(thing) != 3 or not is_whole(thing[0]) or not is_whole(thing[1]):
        return False
    return thing[:2] == pair and _is_card(thing[2])


def _is_card(thing):
    """Tell whether thing is a CARD by its form."""
    if not isinstance(thing, tuple) or len(thing) != 2 or not isinstance(thing[1], tuple):
        return False
    word, row = thing
    if word in ("row", "round"):
        return 1 <= len(row) <= MOST_IN_ROW and _are_among(row, 0, 11)
    if word == "places":
        return len(row) <= 1 and _are_among(row, 0, 6)
    return word == "figures" and _are_among(row, 1, 3) and _is_falling(row)


def _are_among(row, least, most):
    """Tell whether all of a row are whole numbers from least to most."""
    return all([is_among(number, least, most) for number in row])


def _is_falling(row):
    """Tell whether each number of a row is less than the one ahead of it."""
    return all([one > other for one, other in zip(row, row[1:])])


def _card_of(kinds, step):
    """Tell the CARD of a step between two of these kinds."""
    one, other, how = step
    return step_card(kinds[one], kinds[other], how)


def _fits(kinds, row):
    """Tell whether the CARD of a row can be that of its two kinds."""
    one, other, (word, numbers) = kinds[row[0]], kinds[row[1]], row[2]
    if other[0] in FINITE:
        if word != ("row" if one[0] in FINITE else "round") or max(numbers) >= count_worths(other):
            return False
        return one[0] not in FINITE or len(numbers) == count_worths(one)
    if one[0] == "root":
        return word == "places" and len(numbers) == 1
    return word == "figures"


def _is_right(stepped, cards, row):
    """Tell whether a row has the CARD that each step from its first kind tells with the row to the second behind it."""
    one, other, card = row
    # A card that doesn't fit is never right: what comes of a step and a card that fits does.
    for middle, first in stepped[one]:
        if middle == other and card != first:
            return False
        # Kinds that the other one isn't above have no row to it.
        if (middle, other) in cards:
            behind = cards[(middle, other)]
            if behind is None or card != card_behind(first, behind):
                return False
    return True
