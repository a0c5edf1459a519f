"""PROGRAMS: which things are one, and on which NAMES a row hangs."""

from towerwise.errors import BadNumber, BadProgram
from towerwise.mixed import is_number_of
from towerwise.towers import need_tower
from towerwise.words import DEEDS, is_among, is_name

MOST_INS = 6
MOST_ROWS = 30


def is_program(tower, thing):
    """Tell whether thing is a PROGRAM of a tower."""
    need_tower(tower)
    return _wrong_row(tower, thing) is None


def need_program(tower, thing):
    """Refuse with BadProgram what is no PROGRAM of a tower."""
    need_tower(tower)
    need_program_of(tower, thing)


def need_program_of(tower, thing):
    """Refuse with BadProgram what is no PROGRAM of a tower that is known to be good."""
    row = _wrong_row(tower, thing)
    if row is not None:
        raise BadProgram(row)


def _wrong_row(tower, thing):
    """Tell the number of the first wrong row, -1 of what is wrong as a whole or in its INS, None of a PROGRAM."""
    if not is_pair(thing) or not isinstance(thing[0], tuple) or not isinstance(thing[1], tuple):
        return -1
    ins, rows = thing
    if len(ins) > MOST_INS or not 1 <= len(rows) <= MOST_ROWS:
        return -1
    told = {}
    for pair in ins:
        if not _is_new(told, pair) or not is_among(pair[1], 0, len(tower[0]) - 1):
            return -1
        told[pair[0]] = True
    for place, pair in enumerate(rows):
        if not _is_new(told, pair) or not is_work(tower, told, pair[1]):
            return place
        told[pair[0]] = True
    return None


def is_pair(thing):
    """Tell whether thing is a tuple of two."""
    return isinstance(thing, tuple) and len(thing) == 2


def _is_new(told, thing):
    """Tell whether thing is a pair with a NAME first that isn't told yet."""
    return is_pair(thing) and is_name(thing[0]) and thing[0] not in told


def is_work(tower, told, thing):
    """Tell whether thing is a WORK in which no NAMES stand but told ones."""
    if not isinstance(thing, tuple) or len(thing) < 3 or not isinstance(thing[0], str):
        return False
    word = thing[0]
    if word == "pick":
        return len(thing) == 5 and all([_is_told(told, name) for name in thing[1:]])
    if len(thing) != 3:
        return False
    if word == "worth":
        return is_number_of(tower, thing[1:])
    if not _is_told(told, thing[1]):
        return False
    if word == "up":
        return is_among(thing[2], 0, len(tower[0]) - 1)
    return word in DEEDS and _is_told(told, thing[2])


def _is_told(told, thing):
    """Tell whether thing is a NAME that is told."""
    return isinstance(thing, str) and thing in told


def names_used(program, place):
    """List, rising, the NAMES on which the row of that place hangs, by rows between, too."""
    need_place(program, place)
    return sorted(hung_on(program[1], place))


def need_place(program, thing):
    """Refuse with BadNumber what is no place of a row of a good PROGRAM."""
    if not is_among(thing, 0, len(program[1]) - 1):
        raise BadNumber("the program has no row of this place")


def hung_on(rows, place):
    """Tell a dict that has the NAMES on which the row of that place hangs, whatever stands behind them."""
    used = {}
    for name, work in reversed(rows[:place + 1]):
        if name == rows[place][0] or name in used:
            for needed in names_of_work(work):
                used[needed] = True
    return used


def names_of_work(work):
    """Tell the tuple of the NAMES in a WORK."""
    if work[0] == "worth":
        return ()
    return work[1:2] if work[0] == "up" else work[1:]
