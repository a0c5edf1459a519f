"""What the tests of PROGRAMS share: programs of many towers, and what is judged of them, in a way of the tests."""

from random import Random

from tests.deedcase import DEEDS
from tests.mixedcase import TOWERS, stand_found
from tests.test_above import least_found
from tests.test_mixed import least_kind_found
from tests.things import THINGS
from tests.towercase import BAD_TOWERS, TowerCase, above_found, some_worths, ways_found
from towerwise.deeds import deed_done, has_deed
from towerwise.errors import BadProgram, BadTower, NoKind
from towerwise.going import gone_up

LETTERS = "abcdefghijklmnopqrstuvwxyzabcdefghij"
NAMES = [letter + ("x" if place > 25 else "") for place, letter in enumerate(LETTERS)]


def both_above(tower, one, other):
    """List the kinds above both."""
    return [number for number in above_found(tower, one) if number in above_found(tower, other)]


def least_of_two(tower, one, other):
    """Tell the LEAST of all kinds above both, NoKind, or two numbers."""
    return least_found(tower, both_above(tower, one, other))


def why_found(least):
    """Tell why there is no LEAST one, () where there is one."""
    if least is NoKind:
        return ("none",)
    return ("two",) + least if type(least) is tuple else ()


def work_judged(tower, told, work):
    """Tell the number of a WORK's kind, or a tuple of why it has none."""
    word, *names = work
    if word == "worth":
        return names[0]
    if word == "up":
        return names[1] if names[1] in above_found(tower, told[names[0]]) else ("up",)
    if word != "pick":
        least = least_kind_found(tower, word, told[names[0]], told[names[1]])
        return why_found(least) or least
    meeting = least_of_two(tower, told[names[0]], told[names[1]])
    if why_found(meeting):
        return why_found(meeting)
    if tower[0][meeting][0] in ("rest", "own"):
        return ("order",)
    least = least_of_two(tower, told[names[2]], told[names[3]])
    return why_found(least) or least


def judged_found(tower, program):
    """Tell what kinds_judged tells."""
    told, numbers = dict(program[0]), []
    for place, (name, work) in enumerate(program[1]):
        number = work_judged(tower, told, work)
        if type(number) is tuple:
            return ("stopped", place) + number
        told[name] = number
        numbers.append(number)
    return ("kinds", tuple(numbers))


def first_found(tower, one, other):
    """Tell the FIRST way."""
    return ways_found(tower, one, other)[0]


def led_found(tower, candidates, number, one, other):
    """Tell (J, ONE, OTHER, LEDS) with FIRST ways alone."""
    leds = tuple((led, first_found(tower, number, led)) for led in candidates if led != number)
    return (number, first_found(tower, one, number), first_found(tower, other, number), leds)


def paper_found(tower, program):
    """Tell the PAPER of a program that isn't stopped, all its ways FIRST ways."""
    kinds = judged_found(tower, program)[1]
    told, rows = dict(program[0]), []
    for (name, (word, *names)), number in zip(program[1], kinds):
        if word == "worth":
            rows.append((number,))
        elif word == "up":
            rows.append((number, first_found(tower, told[names[0]], number)))
        elif word == "pick":
            first, second, one, other = [told[part] for part in names]
            meeting = least_of_two(tower, first, second)
            order = led_found(tower, both_above(tower, first, second), meeting, first, second)
            rows.append(led_found(tower, both_above(tower, one, other), number, one, other) + (order,))
        else:
            one, other = [told[part] for part in names]
            candidates = [led for led in both_above(tower, one, other) if has_deed(tower[0][led], word)]
            rows.append(led_found(tower, candidates, number, one, other))
        told[name] = number
    return tuple(rows)


def up_found(tower, number, top):
    """Tell what a MIXED number comes to by the FIRST way."""
    return gone_up(tower, first_found(tower, number[0], top), number[1])


def run_found(tower, program, numbers):
    """List the rows' numbers as far as they come; behind them stands the error that ends the run, if there is one."""
    kinds = judged_found(tower, program)[1]
    told = {name: (number, worth) for (name, number), worth in zip(program[0], numbers)}
    run = []
    for (name, work), number in zip(program[1], kinds):
        try:
            told[name] = row_found(tower, told, number, work)
        except ValueError as caught:
            return run + [type(caught)]
        run.append(told[name])
    return run


def row_found(tower, told, number, work):
    """Tell the MIXED number of a row of that kind."""
    word, *names = work
    if word == "worth":
        return tuple(names)
    if word == "up":
        return (number, up_found(tower, told[names[0]], number))
    if word == "pick":
        first, second, third, fourth = [told[name] for name in names]
        return (number, up_found(tower, third if stand_found(tower, first, second) == "below" else fourth, number))
    one, other = [up_found(tower, told[name], number) for name in names]
    return (number, deed_done(tower[0][number], word, one, other))


def drawn_work(draw, tower, names, told):
    """Draw a WORK of the NAMES told; told has their kinds as far as they are known."""
    word = draw.choice(("worth",) + DEEDS + ("plus", "times", "up", "up", "pick"))
    if word == "worth" or not names:
        number = draw.randrange(len(tower[0]))
        return ("worth", number, draw.choice(some_worths(tower[0][number])))
    if word == "up":
        name = draw.choice(names)
        return ("up", name, draw.choice(above_found(tower, told[name])))
    return (word,) + tuple(draw.choice(names) for _ in range(4 if word == "pick" else 2))


def drawn_program(draw, tower, ins, rows, stops=False):
    """Draw a program of so many INS and rows; its last row may stop it, no other one does."""
    heads = tuple((NAMES[place], draw.randrange(len(tower[0]))) for place in range(ins))
    told, found = dict(heads), []
    while len(found) < rows:
        name = NAMES[ins + len(found)]
        work = drawn_work(draw, tower, list(told), told)
        number = work_judged(tower, told, work)
        if type(number) is not tuple or stops and len(found) == rows - 1:
            found.append((name, work))
            told[name] = number
    return (heads, tuple(found))


def drawn_worths(draw, tower, program):
    """Draw a worth for each of INS."""
    return tuple(draw.choice(some_worths(tower[0][number])) for _, number in program[0])


def some_programs(seed, count, rows=6, stops=False):
    """List (TOWER, PROGRAM) of many towers."""
    draw = Random(seed)
    return [(tower, drawn_program(draw, tower, draw.randrange(4), draw.randrange(1, rows + 1), stops))
            for tower in TOWERS for _ in range(count)]


# A program that is good in LINE: whole, share, root, sure.
PLAIN = ((("a", 0), ("b", 1)), (("c", ("plus", "a", "b")), ("d", ("worth", 3, ((0, 1), (1, 1))))))
# What is no program of LINE, with the row that BadProgram tells.
BAD_PROGRAMS = [
    (-1, ()), (-1, ((),)), (-1, ((), ())), (-1, ([], PLAIN[1])), (-1, (PLAIN[0], list(PLAIN[1]))), (-1, list(PLAIN)),
    (-1, PLAIN + ((),)), (-1, ((("a", 0), ("a", 1)), PLAIN[1])), (-1, ((("a", 4),), (None,))), (-1, (None, PLAIN[1])),
    (-1, (PLAIN[0], None)), (0, ((), PLAIN[1])), (0, (PLAIN[0], (None,))), (1, (PLAIN[0], PLAIN[1][:1] * 2)),
    (1, (PLAIN[0], PLAIN[1][:1] + (("d", ("plus", "d", "a")),))), (0, (PLAIN[0], (("a", ("worth", 0, 1)), None))),
]


class ProgramCase(TowerCase):
    def refuses_programs(self, function, tower, *behinds):
        """What is no program is refused with the first wrong row, whatever stands behind it."""
        for row, thing in BAD_PROGRAMS:
            for behind in behinds:
                self.refused_with(BadProgram, {"row": row}, function, tower, thing, *behind)
        for thing in THINGS:
            self.refused_with(BadProgram, {"row": -1}, function, tower, thing, *behinds[0])

    def refuses_towers_ahead(self, function, *behind):
        """What is no tower is refused ahead of all else."""
        for place, thing in BAD_TOWERS[::3]:
            for program in (PLAIN, None, ((), ())):
                self.refused_with(BadTower, {"place": place}, function, thing, program, *behind)
        self.refuses_towers(function, (PLAIN,) + behind)
