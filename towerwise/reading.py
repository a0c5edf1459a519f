"""Reading texts of kinds, worths, towers and programs: just what is written so, else the place where it goes wrong."""

from towerwise.errors import BadText
from towerwise.fractions import is_fraction
from towerwise.kinds import FINITE, is_kind, need_kind
from towerwise.programs import MOST_INS, MOST_ROWS
from towerwise.towers import MOST_KINDS, can_stand, is_tower, need_tower
from towerwise.words import DEEDS, is_among, is_name, number_in, words_of
from towerwise.worths import has_worth

FIGURES = "012345"


def read_kind(text):
    """Read a kind."""
    return _kind_from(_only_row(text), 0, 0)


def read_worth(kind, text):
    """Read a worth of a kind."""
    need_kind(kind)
    return _worth_from(kind, _only_row(text), 0, 0)


def read_tower(text):
    """Read a tower."""
    kinds, steps = [], []
    rows = _rows_of(text)
    for line, row in enumerate(rows):
        words = _words_of(row, line)
        word = _word_at(words, line, 0)
        if word == "kind" and len(kinds) < MOST_KINDS and not steps:
            kinds.append(_new_kind(kinds, words, line))
        elif word == "step" and kinds:
            steps.append(_new_step(tuple(kinds), steps, words, line))
        else:
            raise BadText(line, 0)
    tower = (tuple(kinds), tuple(steps))
    # Each of its rows can stand there, so nothing but a RING is wrong now.
    if not is_tower(tower):
        raise BadText(len(rows), 0)
    return tower


def read_program(tower, text):
    """Read a program of a tower."""
    need_tower(tower)
    ins, works, told = [], [], {}
    rows = _rows_of(text)
    for line, row in enumerate(rows):
        words = _words_of(row, line)
        word = _word_at(words, line, 0)
        if word == "in" and len(ins) < MOST_INS and not works:
            name = _new_name(told, words, line)
            ins.append((name, _number_from(tower[0], words, line, 2)))
            _need_end(words, line, 3)
        elif word == "row" and len(works) < MOST_ROWS:
            name = _new_name(told, words, line)
            works.append((name, _work_from(tower[0], told, words, line)))
        else:
            raise BadText(line, 0)
        told[name] = True
    if not works:
        raise BadText(len(rows), 0)
    return (tuple(ins), tuple(works))


def _rows_of(text):
    """List the rows of a text; refuse what is none."""
    if not isinstance(text, str):
        raise BadText(0, 0)
    return text.split("\n")


def _words_of(row, line):
    """List the words of a row; refuse one that isn't words parted by one blank each."""
    words = words_of(row)
    if words is None:
        raise BadText(line, 0)
    return words


def _only_row(text):
    """List the words of a text's first row, and behind them None where there is another row, which is one too many."""
    rows = _rows_of(text)
    words = _words_of(rows[0], 0)
    return words if len(rows) == 1 else words + [None]


def _word_at(words, line, place):
    """Tell the word at a place; refuse where it lacks."""
    if place >= len(words) or words[place] is None:
        raise BadText(line, place)
    return words[place]


def _need_end(words, line, place):
    """Refuse a word at a place behind the last one, and a row behind the only one."""
    if len(words) > place:
        if words[place] is None:
            raise BadText(line + 1, 0)
        raise BadText(line, place)


def _number_from(things, words, line, place):
    """Read the number of one of some things."""
    number = number_in(_word_at(words, line, place))
    if not is_among(number, 0, len(things) - 1):
        raise BadText(line, place)
    return number


def _kind_from(words, line, place):
    """Read the kind that goes from a place to the end of the row."""
    word = _word_at(words, line, place)
    if word == "own":
        plus = _table_from(words, line, place + 1)
        times = _table_from(words, line, place + 2)
        if len(times) != len(plus):
            raise BadText(line, place + 2)
        _need_end(words, line, place + 3)
        return (word, plus, times)
    if is_kind((word,)):
        _need_end(words, line, place + 1)
        return (word,)
    if word not in ("root", "rest", "about", "sure"):
        raise BadText(line, place)
    kind = (word, number_in(_word_at(words, line, place + 1)))
    if not is_kind(kind):
        raise BadText(line, place + 1)
    _need_end(words, line, place + 2)
    return kind


def _table_from(words, line, place):
    """Read a table of an own kind."""
    rows = _word_at(words, line, place).split("/")
    many = len(rows)
    for row in rows:
        if not 2 <= many <= len(FIGURES) or len(row) != many or not all([sign in FIGURES[:many] for sign in row]):
            raise BadText(line, place)
    return tuple([tuple([int(sign) for sign in row]) for row in rows])


def _worth_from(kind, words, line, place):
    """Read the worth that goes from a place to the end of the row."""
    word = kind[0]
    if word in FINITE or word in ("whole", "share"):
        worth = _part_from(kind, words, line, place)
        if not has_worth(kind, worth):
            raise BadText(line, place)
        _need_end(words, line, place + 1)
        return worth
    first = _part_from(kind, words, line, place)
    # A front that has no power, not even 0, can't stand, whatever follows.
    if word == "about" and not has_worth(kind, (first, 0)):
        raise BadText(line, place)
    worth = (first, _part_from(kind, words, line, place + 1))
    if not has_worth(kind, worth):
        raise BadText(line, place + 1)
    _need_end(words, line, place + 2)
    return worth


def _part_from(kind, words, line, place):
    """Read one word of a worth: a FRACTION, or a whole number of a kind that has no FRACTIONS."""
    word = _word_at(words, line, place)
    part = _fraction_in(word) if kind[0] in ("share", "root", "sure") else number_in(word)
    if part is None:
        raise BadText(line, place)
    return part


def _fraction_in(word):
    """Tell the FRACTION that a word writes, None of all else."""
    numbers = [number_in(part) for part in word.split("/")]
    if None in numbers or len(numbers) > 2:
        return None
    if len(numbers) == 1:
        return (numbers[0], 1)
    above, below = numbers
    return (above, below) if below != 1 and is_fraction((above, below)) else None


def _new_kind(kinds, words, line):
    """Read the kind of a row of a tower that doesn't stand ahead."""
    kind = _kind_from(words, line, 1)
    if kind in kinds:
        raise BadText(line, 0)
    return kind


def _new_step(kinds, steps, words, line):
    """Read a step of a tower that can stand behind those ahead."""
    one = _number_from(kinds, words, line, 1)
    other = _number_from(kinds, words, line, 2)
    how = None
    if len(words) > 3:
        how = row_in(words[3])
        if how is None:
            raise BadText(line, 3)
        _need_end(words, line, 4)
    step = (one, other, how)
    if steps and step[:2] <= steps[-1][:2] or not can_stand(kinds, step):
        raise BadText(line, 0)
    return step


def row_in(word):
    """Tell the tuple of numbers that a word writes as a ROW, None of all else."""
    numbers = tuple([number_in(part) for part in word.split(".")])
    return None if None in numbers else numbers


def _new_name(told, words, line):
    """Read the NAME of a row of a program, which isn't told ahead."""
    name = _word_at(words, line, 1)
    if not is_name(name) or name in told:
        raise BadText(line, 1)
    return name


def _told_names(told, words, line, many):
    """Read so many NAMES of a WORK, all of them told ahead, and the end of the row behind them."""
    for place in range(3, 3 + many):
        if _word_at(words, line, place) not in told:
            raise BadText(line, place)
    _need_end(words, line, 3 + many)
    return tuple(words[3:])


def _work_from(kinds, told, words, line):
    """Read the WORK of a row of a program."""
    word = _word_at(words, line, 2)
    if word == "worth":
        number = _number_from(kinds, words, line, 3)
        return (word, number, _worth_from(kinds[number], words, line, 4))
    if word == "up":
        if _word_at(words, line, 3) not in told:
            raise BadText(line, 3)
        number = _number_from(kinds, words, line, 4)
        _need_end(words, line, 5)
        return (word, words[3], number)
    if word == "pick":
        return (word,) + _told_names(told, words, line, 4)
    if word not in DEEDS:
        raise BadText(line, 2)
    return (word,) + _told_names(told, words, line, 2)
