"""DESKS: lines of words, and what is told of each."""

from towerwise.above import all_ways
from towerwise.differ import uneven_ways
from towerwise.errors import BadLine, BadText, BadTower, ByNought, Lacking, NoKind, NoOrder, TooGreat, TwoKinds
from towerwise.house import House
from towerwise.judged import kinds_judged
from towerwise.reading import read_kind, read_program, read_worth, row_in
from towerwise.runs import run_of
from towerwise.terms import MOST_PARTS, TERM_DEEDS, is_equation
from towerwise.verdicts import reach_of
from towerwise.words import is_among, is_deed, is_name, number_in, words_of
from towerwise.writing import mixed_text, worth_text

# How many words a line has by its first one, at least and, where more are too many, at most.
LEAST = {"kind": 2, "step": 3, "let": 4, "do": 5, "like": 3, "order": 3, "ways": 3, "even": 1, "holds": 4,
         "program": 2, "run": 1}
MOST = {"step": 4, "do": 5, "like": 3, "order": 3, "ways": 3, "even": 1}


class Desk:
    """A house, at first with whole numbers alone, and a program, at first none."""

    def __init__(self):
        self._house = House(((("whole",),), ()))
        self._program = None

    def said(self, line):
        """Tell what is told of a line, whatever it is."""
        words = words_of(line)
        if not words or not _is_line(words):
            return "no line"
        try:
            return self._built(words) if words[0] in ("kind", "step", "let", "do") else self._asked(words)
        except BadLine as refused:
            return str(refused)
        except NoKind:
            return "no kind"
        except TwoKinds as both:
            return f"two kinds {both.one} {both.other}"
        except NoOrder:
            return "no order"
        except TooGreat:
            return "too great"
        except ByNought:
            return "by nought"

    def _built(self, words):
        """Tell what is told of a line that puts something more into the house."""
        if words[0] == "kind":
            return self._kind(words)
        if words[0] == "step":
            return self._step(words)
        return self._let(words) if words[0] == "let" else self._do(words)

    def _asked(self, words):
        """Tell what is told of a line that asks about what is there, or about a program."""
        word = words[0]
        if word == "ways":
            return self._ways(words)
        if word == "even":
            return self._even()
        if word == "holds":
            return self._holds(words)
        if word == "program":
            return self._judged(words)
        if word == "run":
            return self._run(words)
        self._need_names(words[1:])
        if word == "like":
            return self._house.likeness(words[1], words[2])
        return self._house.order(words[1], words[2])

    def _kind(self, words):
        """Put a kind more into the tower."""
        try:
            number = self._house.kind(read_kind(" ".join(words[1:])))
        except (BadText, BadTower):
            raise BadLine("bad kind")
        return f"kind {number}"

    def _number(self, word):
        """Tell the number of a kind that a word writes."""
        number = number_in(word)
        if not is_among(number, 0, len(self._house.tower()[0]) - 1):
            raise BadLine("bad kind")
        return number

    def _step(self, words):
        """Put a step more into the tower."""
        one, other = self._number(words[1]), self._number(words[2])
        how = row_in(words[3]) if len(words) == 4 else None
        if how is None and len(words) == 4:
            raise BadLine("bad step")
        try:
            self._house.step((one, other, how))
        except BadTower:
            raise BadLine("bad step")
        return "done"

    def _let(self, words):
        """Give a name to a worth of a kind."""
        number = self._number(words[2])
        if not is_name(words[1]):
            raise BadLine("bad name")
        try:
            worth = read_worth(self._house.tower()[0][number], " ".join(words[3:]))
        except BadText:
            raise BadLine("bad worth")
        self._house.name(words[1], (number, worth))
        return "done"

    def _do(self, words):
        """Give a name to what comes of a deed."""
        name, deed, one, other = words[1:]
        if not is_name(name):
            raise BadLine("bad name")
        self._need_names([one, other])
        if not is_deed(deed):
            raise BadLine("bad deed")
        number = self._house.deed(deed, one, other)
        self._house.name(name, number)
        return mixed_text(self._house.tower(), number)

    def _need_names(self, words):
        """Refuse a name that isn't there; list the MIXED numbers of all."""
        try:
            return [self._house.number(word) for word in words]
        except Lacking:
            raise BadLine("no name")

    def _ways(self, words):
        """Tell all ways from one kind to another."""
        one, other = self._number(words[1]), self._number(words[2])
        return ", ".join([_way_text(way) for way in all_ways(self._house.tower(), one, other)]) or "none"

    def _even(self):
        """Tell whether the tower is EVEN, else where it isn't."""
        tower = self._house.tower()
        uneven = uneven_ways(tower)
        if uneven is None:
            return "even"
        one, other, worth = uneven
        return f"{_way_text(one)} {_way_text(other)} {worth_text(tower[0][one[0]], worth)}"

    def _holds(self, words):
        """Tell the REACH of an equation, and what it is in each kind."""
        if words.count("=") != 1:
            raise BadLine("bad equation")
        middle = words.index("=")
        equation = (_term_in(words[1:middle]), _term_in(words[middle + 1:]))
        if not is_equation(equation):
            raise BadLine("bad equation")
        reach, told = reach_of(self._house.tower(), equation)
        return " ".join((reach,) + told)

    def _judged(self, words):
        """Take a program and tell of which kinds its rows are."""
        tower = self._house.tower()
        try:
            program = read_program(tower, " ".join(words[1:]).replace(" ; ", "\n"))
        except BadText as refused:
            raise BadLine(f"bad program {refused.line} {refused.word}")
        self._program = program
        told = kinds_judged(tower, program)
        if told[0] == "kinds":
            told = told[:1] + told[1]
        return " ".join([str(part) for part in told])

    def _run(self, words):
        """Run the program with named numbers."""
        numbers = self._need_names(words[1:])
        program, tower = self._program, self._house.tower()
        if program is None or [kind for kind, _ in numbers] != [kind for _, kind in program[0]]:
            raise BadLine("no program")
        try:
            run = run_of(tower, program, tuple([worth for _, worth in numbers]))
        except Lacking:
            raise BadLine("no program")
        return ", ".join([mixed_text(tower, number) for number in run])


def _is_line(words):
    """Tell whether there are as many words as a line with this first one has."""
    word, many = words[0], len(words)
    return word in LEAST and LEAST[word] <= many <= MOST.get(word, many)


def _way_text(way):
    """Write a way."""
    return ">".join([str(number) for number in way])


def _term_in(words):
    """Tell the TERM that words write, each deed ahead of both its sides; of other words nothing that is one."""
    told = []
    # Each word is a part of the term.
    if len(words) > MOST_PARTS:
        return None
    for word in reversed(words):
        if word in TERM_DEEDS:
            if len(told) < 2:
                return None
            # The side that stands first was read last.
            first = told.pop()
            told.append((word, first, told.pop()))
        else:
            number = number_in(word)
            told.append(("name", word) if number is None else ("number", number))
    return told[0] if len(told) == 1 else None
