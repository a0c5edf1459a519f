"""Checking PAPERS of PROGRAMS: what is let by is just what judging tells."""

from towerwise.above import having
from towerwise.errors import BadPaper
from towerwise.going import steps_along
from towerwise.judged import judge_rows
from towerwise.judgepaper import first_of
from towerwise.paths import least_in, numbers_in
from towerwise.programs import is_pair, need_program_of
from towerwise.towers import plan_of
from towerwise.words import is_among, is_whole


def check_judged(tower, program, kinds, paper):
    """Refuse with BadPaper what are not the kinds of all rows, or is no PAPER, of a PROGRAM."""
    plan = plan_of(tower)
    need_program_of(tower, program)
    rows = program[1]
    if not _is_tuple_of(kinds, len(rows)) or not _is_tuple_of(paper, len(rows)):
        raise BadPaper(())
    if not all([is_among(number, 0, len(tower[0]) - 1) for number in kinds]):
        raise BadPaper(())
    numbers = judge_rows(tower[0], plan[1], program)[0]
    told = {name: number for name, number in program[0]}
    for place, (name, work) in enumerate(rows):
        # Rows from the one on that stops the program have no number among these.
        if place == len(numbers) or kinds[place] != numbers[place]:
            raise BadPaper((place,))
        if not _is_right(tower, plan, told, numbers[place], work, paper[place]):
            raise BadPaper((place,))
        told[name] = numbers[place]


def _is_tuple_of(thing, many):
    """Tell whether thing is a tuple of so many things."""
    return isinstance(thing, tuple) and len(thing) == many


def _is_right(tower, plan, told, number, work, thing):
    """Tell whether thing is the tuple of a row of that kind by the numbers of the kinds of all NAMES ahead."""
    word = work[0]
    if word == "worth":
        return _is_tuple_of(thing, 1) and _is_number(thing[0], number)
    if word == "up":
        return is_pair(thing) and _is_number(thing[0], number) and _is_first(plan, thing[1], told[work[1]], number)
    if word != "pick":
        one, other = told[work[1]], told[work[2]]
        return _is_led(tower, plan, number, one, other, having(tower[0], plan[1], word, one, other), thing)
    if not _is_tuple_of(thing, 5):
        return False
    above = plan[1]
    first, second, one, other = [told[name] for name in work[1:]]
    ordered = above[first] & above[second]
    return (_is_led(tower, plan, number, one, other, above[one] & above[other], thing[:4])
            and _is_led(tower, plan, least_in(above, ordered), first, second, ordered, thing[4]))


def _is_led(tower, plan, number, one, other, bits, thing):
    """Tell whether thing is (J, ONE, OTHER, LEDS) of two kinds and the LEAST of some, told in bits."""
    if not _is_tuple_of(thing, 4) or not _is_number(thing[0], number):
        return False
    if not _is_first(plan, thing[1], one, number) or not _is_first(plan, thing[2], other, number):
        return False
    others = [led for led in numbers_in(plan[1], bits) if led != number]
    if not _is_tuple_of(thing[3], len(others)):
        return False
    return all([_is_pair_to(tower, number, led, pair) for led, pair in zip(others, thing[3])])


def _is_number(thing, number):
    """Tell whether thing is that whole number: True and False are none."""
    return is_whole(thing) and thing == number


def _is_first(plan, thing, one, other):
    """Tell whether thing is the FIRST way from one kind to another, which is above it."""
    return isinstance(thing, tuple) and all([is_whole(part) for part in thing]) and thing == first_of(plan, one, other)


def _is_pair_to(tower, number, led, thing):
    """Tell whether thing is a pair of a kind and any way to it from another."""
    if not is_pair(thing) or not _is_number(thing[0], led):
        return False
    return steps_along(tower, thing[1]) is not None and thing[1][0] == number and thing[1][-1] == led
