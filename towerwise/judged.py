"""PROGRAMS judged ahead: of which kind each row is, whatever worths are handed in."""

from towerwise.above import having
from towerwise.errors import Lacking, NoKind, TwoKinds
from towerwise.kinds import FINITE
from towerwise.paths import least_among
from towerwise.programs import need_place, need_program_of
from towerwise.towers import plan_of


def kinds_judged(tower, program):
    """Tell ("kinds", KINDS), the number of each row's kind, or ("stopped", PLACE, WHY) and TwoKinds' numbers."""
    above = plan_of(tower)[1]
    need_program_of(tower, program)
    numbers, why = judge_rows(tower[0], above, program)
    return ("stopped", len(numbers)) + why if why else ("kinds", tuple(numbers))


def kind_of(tower, program, place):
    """Tell the number of the kind of the row of that place, None of a row that has none."""
    above = plan_of(tower)[1]
    need_program_of(tower, program)
    need_place(program, place)
    numbers = judge_rows(tower[0], above, program)[0]
    return numbers[place] if place < len(numbers) else None


def judge_rows(kinds, above, program):
    """Tell (NUMBERS, WHY): a list of the number of each row's kind, as far as it goes, and why it goes no further."""
    ins, rows = program
    told = {name: number for name, number in ins}
    numbers = []
    for name, work in rows:
        number, why = _judged_work(kinds, above, told, work)
        if why:
            return (numbers, why)
        told[name] = number
        numbers.append(number)
    return (numbers, ())


def need_judged(kinds, above, program):
    """Refuse with Lacking a program that is stopped; list the number of each row's kind."""
    numbers, why = judge_rows(kinds, above, program)
    if why:
        raise Lacking("the program is stopped")
    return numbers


def _judged_work(kinds, above, told, work):
    """Tell (NUMBER, WHY) of a WORK by the numbers of the kinds of all NAMES ahead; WHY is () of what has a kind."""
    word = work[0]
    if word == "worth":
        return (work[1], ())
    if word == "up":
        return (work[2], () if above[told[work[1]]] >> work[2] & 1 else ("up",))
    if word != "pick":
        return _least(above, having(kinds, above, word, told[work[1]], told[work[2]]))
    meeting, why = _least(above, above[told[work[1]]] & above[told[work[2]]])
    if why:
        return (None, why)
    if kinds[meeting][0] in FINITE:
        return (None, ("order",))
    return _least(above, above[told[work[3]]] & above[told[work[4]]])


def _least(above, bits):
    """Tell (NUMBER, WHY) of the LEAST of some kinds, told in bits."""
    try:
        return (least_among(above, bits), ())
    except NoKind:
        return (None, ("none",))
    except TwoKinds as caught:
        return (None, ("two", caught.one, caught.other))
