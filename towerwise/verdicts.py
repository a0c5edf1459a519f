"""VERDICTS of equations: whether they hold in a kind, or at which worths they are broken."""

from towerwise.deeds import done
from towerwise.kinds import FINITE, count_worths, need_kind
from towerwise.polys import poly_told
from towerwise.terms import lacks, names_of_equation, need_equation, number_in_kind
from towerwise.towers import need_tower
from towerwise.worths import LAST_TRIED, worth_at

# What holds by the usual rules holds in these kinds; in the first three nothing else does.
RULED = ("whole", "share", "root", "rest")
# Kinds in which nobody can try all worths that count.
SOME_TRIED = ("about", "sure")
ABOUTS = ((0, 0), (1, 0), (-1, 0), (5, 0), (-5, 0))
SURES = (((0, 1), (0, 1)), ((1, 1), (1, 1)), ((-1, 1), (-1, 1)), ((0, 1), (1, 1)), ((-1, 1), (1, 1)),
         ((1, 1), (2, 1)), ((-2, 1), (0, 1)))
GOOD = ("holds", "tried")


def verdict_of(kind, equation):
    """Tell the VERDICT of an EQUATION in a kind."""
    need_kind(kind)
    need_equation(equation)
    return _verdict(kind, equation, _is_ruled(equation))


def reach_of(tower, equation):
    """Tell (REACH, WORDS): whether an EQUATION holds in all, some or no kinds, and each VERDICT's first word."""
    need_tower(tower)
    need_equation(equation)
    ruled = _is_ruled(equation)
    words = tuple([_verdict(kind, equation, ruled)[0] for kind in tower[0]])
    good = [word for word in words if word in GOOD]
    if not good:
        return ("no", words)
    return ("all" if len(good) == len(words) else "some", words)


def _is_ruled(equation):
    """Tell whether both sides of an EQUATION come to the same by the usual rules."""
    return poly_told(equation[0]) == poly_told(equation[1])


def _verdict(kind, equation, ruled):
    """Tell the VERDICT, all known to be good."""
    if lacks(kind, equation[0]) or lacks(kind, equation[1]):
        return ("lacks",)
    if ruled and kind[0] in RULED:
        return ("holds",)
    names = names_of_equation(equation)
    worths = _first_broken(kind, equation, names)
    if worths is not None:
        return ("broken", tuple(zip(names, worths)))
    return ("tried",) if kind[0] in SOME_TRIED else ("holds",)


def _first_broken(kind, equation, names):
    """Tell the worths of the first trial at which the sides don't tell the same, None without one.

    Where a kind has no last worth this ends all the same: sides of unlike POLYS are unlike among the first few places,
    for no POLY has more noughts in one name than the name's power.
    """
    known, worths = {}, []
    for place in range(_last_place(kind, names) + 1):
        worths.append(_tried_at(kind, place))
        trials = _trials(place, len(names))
        columns = {name: [worths[trial[at]] for trial in trials] for at, name in enumerate(names)}
        left, right = [_column(kind, side, columns, len(trials), known) for side in equation]
        if left != right:
            first = [one == other for one, other in zip(left, right)].index(False)
            return [worths[at] for at in trials[first]]
    return None


def _last_place(kind, names):
    """Tell the last place at which names are tried."""
    if not names:
        return 0
    if kind[0] in FINITE:
        return count_worths(kind) - 1
    return len(SURES) - 1 if kind[0] in SOME_TRIED else LAST_TRIED


def _tried_at(kind, place):
    """Tell the worth that is tried at a place."""
    if kind[0] == "sure":
        return SURES[place]
    if kind[0] == "about":
        return ABOUTS[place] if place < len(ABOUTS) else (1 if place == len(ABOUTS) else -1, kind[1])
    return worth_at(kind, place)


def _trials(place, many):
    """List, rising, the tuples of so many places of which the greatest is this one; the empty one at place 0."""
    trials = [()]
    for _ in range(many):
        trials = [trial + (at,) for trial in trials for at in range(place + 1)]
    return [trial for trial in trials if place in trial or many == 0]


def _column(kind, term, columns, many, known):
    """List what a TERM tells at so many trials, by the lists of what its names are there.

    What is known already isn't done again: the same two worths meet in many trials.
    """
    if term[0] == "name":
        return columns[term[1]]
    if term[0] == "number":
        return [number_in_kind(kind, term[1])] * many
    left, right = [_column(kind, side, columns, many, known) for side in term[1:]]
    if kind[0] in FINITE:
        if term[0] not in known:
            known[term[0]] = _table_of(kind, term[0])
        table = known[term[0]]
        return [table[one][other] for one, other in zip(left, right)]
    if kind[0] == "whole":
        return _whole_column(term[0], left, right)
    return [_told(kind, term[0], one, other, known) for one, other in zip(left, right)]


def _whole_column(deed, left, right):
    """List what comes of whole numbers: of so few parts none is too great."""
    if deed == "plus":
        return [one + other for one, other in zip(left, right)]
    if deed == "less":
        return [one - other for one, other in zip(left, right)]
    return [one * other for one, other in zip(left, right)]


def _table_of(kind, deed):
    """Tell a table of what comes of any two worths of a finite kind by a deed that it has."""
    worths = range(count_worths(kind))
    return [[done(kind, deed, one, other) for other in worths] for one in worths]


def _told(kind, deed, one, other, known):
    """Tell what comes of two worths, and keep it among what is known."""
    key = (deed, one, other)
    if key not in known:
        known[key] = done(kind, deed, one, other)
    return known[key]
