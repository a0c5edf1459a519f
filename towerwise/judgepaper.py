"""PAPERS of PROGRAMS: by which ways each row comes to its kind, and from there to all others that it might be of."""

from towerwise.above import having
from towerwise.judged import need_judged
from towerwise.paths import first_steps, least_in, numbers_in, way_along
from towerwise.programs import need_program_of
from towerwise.towers import plan_of


def judge_paper(tower, program):
    """Tell the PAPER of a PROGRAM in which all ways are FIRST ways."""
    plan = plan_of(tower)
    need_program_of(tower, program)
    numbers = need_judged(tower[0], plan[1], program)
    told = {name: number for name, number in program[0]}
    paper = []
    for (name, work), number in zip(program[1], numbers):
        paper.append(_paper_of(tower[0], plan, told, number, work))
        told[name] = number
    return tuple(paper)


def _paper_of(kinds, plan, told, number, work):
    """Tell the tuple of a row of that kind by the numbers of the kinds of all NAMES ahead."""
    word = work[0]
    if word == "worth":
        return (number,)
    if word == "up":
        return (number, first_of(plan, told[work[1]], number))
    if word != "pick":
        one, other = told[work[1]], told[work[2]]
        return _led(plan, number, one, other, having(kinds, plan[1], word, one, other))
    above = plan[1]
    first, second, one, other = [told[name] for name in work[1:]]
    ordered = above[first] & above[second]
    order = _led(plan, least_in(above, ordered), first, second, ordered)
    return _led(plan, number, one, other, above[one] & above[other]) + (order,)


def first_of(plan, one, other):
    """Tell the FIRST way from one kind to another, which is above it."""
    leads, above = plan
    return way_along(one, first_steps(leads, above, one, other))


def _led(plan, number, one, other, bits):
    """Tell (J, ONE, OTHER, LEDS): the FIRST ways from two kinds to the LEAST of some, and from it to all others."""
    leds = [(led, first_of(plan, number, led)) for led in numbers_in(plan[1], bits) if led != number]
    return (number, first_of(plan, one, number), first_of(plan, other, number), tuple(leds))
