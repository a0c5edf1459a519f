"""Texts of kinds, worths, towers and programs, all of them good ones."""


def kind_text(kind):
    """Write a kind: its word and what stands behind it."""
    if kind[0] == "own":
        return f"own {_table_text(kind[1])} {_table_text(kind[2])}"
    return " ".join([str(part) for part in kind])


def _table_text(table):
    """Write a table: its rows as figures."""
    return "/".join(["".join([str(number) for number in row]) for row in table])


def worth_text(kind, worth):
    """Write a worth of a kind."""
    if kind[0] == "share":
        return _fraction_text(worth)
    if kind[0] in ("root", "sure"):
        return f"{_fraction_text(worth[0])} {_fraction_text(worth[1])}"
    return f"{worth[0]} {worth[1]}" if kind[0] == "about" else str(worth)


def _fraction_text(number):
    """Write a FRACTION."""
    return str(number[0]) if number[1] == 1 else f"{number[0]}/{number[1]}"


def mixed_text(tower, number):
    """Write a MIXED number: the number of its kind, and its worth."""
    return f"{number[0]} {worth_text(tower[0][number[0]], number[1])}"


def tower_text(tower):
    """Write a tower: a row for each kind, then one for each step."""
    rows = ["kind " + kind_text(kind) for kind in tower[0]]
    return "\n".join(rows + [_step_text(step) for step in tower[1]])


def _step_text(step):
    """Write a step, with its ROW where it has one."""
    one, other, how = step
    text = f"step {one} {other}"
    if how is None:
        return text
    return text + " " + ".".join([str(worth) for worth in how])


def program_text(tower, program):
    """Write a program: a row for each of INS, then one for each row."""
    rows = [f"in {name} {number}" for name, number in program[0]]
    return "\n".join(rows + [f"row {name} {_work_text(tower, work)}" for name, work in program[1]])


def _work_text(tower, work):
    """Write a WORK."""
    if work[0] == "worth":
        return "worth " + mixed_text(tower, work[1:])
    return " ".join([str(part) for part in work])
