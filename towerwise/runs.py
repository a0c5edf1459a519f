"""RUNS of PROGRAMS with worths handed in."""

from towerwise.errors import BadWorth
from towerwise.judged import need_judged
from towerwise.mixed import deed_at, first_come
from towerwise.order import order_at
from towerwise.paths import least_in
from towerwise.programs import hung_on, need_place, need_program_of
from towerwise.towers import plan_of
from towerwise.worths import has_worth


def run_of(tower, program, numbers):
    """List the MIXED number of each row of a PROGRAM with a tuple of worths for its INS."""
    plan = plan_of(tower)
    need_program_of(tower, program)
    judged = need_judged(tower[0], plan[1], program)
    told = _handed_in(tower[0], program, numbers)
    run = []
    for (name, work), number in zip(program[1], judged):
        told[name] = _row_done(tower[0], plan, told, number, work)
        run.append(told[name])
    return run


def run_row(tower, program, numbers, place):
    """Tell the MIXED number of the row of that place: nothing is done but the rows on which it hangs, and it."""
    plan = plan_of(tower)
    need_program_of(tower, program)
    judged = need_judged(tower[0], plan[1], program)
    need_place(program, place)
    told = _handed_in(tower[0], program, numbers)
    rows = program[1]
    used = hung_on(rows, place)
    for (name, work), number in zip(rows[:place], judged):
        if name in used:
            told[name] = _row_done(tower[0], plan, told, number, work)
    return _row_done(tower[0], plan, told, judged[place], rows[place][1])


def _handed_in(kinds, program, thing):
    """Refuse with BadWorth what is no tuple of a worth for each of INS; tell their MIXED numbers by their NAMES."""
    ins = program[0]
    if not isinstance(thing, tuple) or len(thing) != len(ins):
        raise BadWorth("a tuple of a worth for each name is wanted")
    for (_, number), worth in zip(ins, thing):
        if not has_worth(kinds[number], worth):
            raise BadWorth("this is no worth of the name's kind")
    return {name: (number, worth) for (name, number), worth in zip(ins, thing)}


def _row_done(kinds, plan, told, number, work):
    """Tell the MIXED number of a row of that kind by those of all NAMES on which it hangs."""
    word = work[0]
    if word == "worth":
        return work[1:]
    leads, above = plan
    if word == "up":
        return (number, first_come(kinds, leads, above, told[work[1]], number))
    if word != "pick":
        return deed_at(kinds, leads, above, number, word, told[work[1]], told[work[2]])
    first, second, third, fourth = [told[name] for name in work[1:]]
    meeting = least_in(above, above[first[0]] & above[second[0]])
    order = order_at(kinds, leads, above, meeting, first, second)
    return (number, first_come(kinds, leads, above, third if order == "below" else fourth, number))
