"""[60] PROGRAMS and the NAMES on which a row hangs: towerwise.programs."""

from random import Random

from tests.deedcase import DEEDS, NO_DEEDS
from tests.mixedcase import TOWERS
from tests.programcase import BAD_PROGRAMS, NAMES, PLAIN, ProgramCase, some_programs
from tests.test_worths import is_good
from tests.things import THINGS, whole
from tests.towercase import LINE, OWNS, RESTS
from towerwise.errors import BadNumber, BadProgram, BadTower
from towerwise.programs import is_program, names_used, need_program

NO_NAMES = ["", "A", "a1", "abcdefg", "a b", " a", "a\n", b"a", None, True, 0, ("a",), ["a"], {"a": 1}]
ROW = ("c", ("worth", 0, 5))


def rows_of(many, ahead=0):
    """Make so many rows, each of the one ahead of it but the first one."""
    rows = [(NAMES[ahead], ("worth", 0, 1))]
    for place in range(1, many):
        rows.append((NAMES[ahead + place], ("plus", NAMES[ahead + place - 1], NAMES[ahead])))
    return tuple(rows)


class Programs(ProgramCase):
    def good(self, tower, thing):
        """This is a program."""
        self.told(True, is_program, tower, thing)
        self.told(None, need_program, tower, thing)

    def bad(self, row, tower, thing):
        """This is none, and that is the number that is told."""
        self.told(False, is_program, tower, thing)
        self.refused_with(BadProgram, {"row": row}, need_program, tower, thing)

    def bad_work(self, *work):
        """With this work, the third row of a program of LINE is wrong; so it is with another name and with more."""
        for name in ("e", "zzzzzz"):
            rows = PLAIN[1] + ((name, work),)
            self.bad(2, LINE, (PLAIN[0], rows))
            self.bad(2, LINE, (PLAIN[0], rows + (None,)))

    def good_work(self, *work):
        """A third row with this work is good."""
        self.good(LINE, (PLAIN[0], PLAIN[1] + (("e", work),)))

    def test_good_ones(self):
        for tower, program in some_programs(1, 3) + some_programs(2, 1, stops=True):
            self.good(tower, program)

    def test_bad_ones(self):
        for row, thing in BAD_PROGRAMS:
            self.bad(row, LINE, thing)

    def test_none_to_six_ins(self):
        for many in range(9):
            ins = tuple((NAMES[place], place % 4) for place in range(many))
            if many <= 6:
                self.good(LINE, (ins, (("zz", ("worth", 0, 1)),)))
            else:
                self.bad(-1, LINE, (ins, (("zz", ("worth", 0, 1)),)))
                self.bad(-1, LINE, (ins, (None,)))

    def test_one_to_thirty_rows(self):
        for many in (1, 2, 29, 30):
            self.good(LINE, ((), rows_of(many)))
            self.good(LINE, (tuple((name, 1) for name in NAMES[:6]), rows_of(many, 6)))
        self.bad(-1, LINE, ((), ()))
        self.bad(-1, LINE, (PLAIN[0], ()))
        self.bad(-1, LINE, ((), rows_of(31)))
        self.bad(-1, LINE, ((), rows_of(30) + (None,)))
        self.bad(29, LINE, ((), rows_of(29) + (None,)))

    def test_what_is_none_as_a_whole(self):
        for thing in THINGS:
            self.bad(-1, LINE, thing)
            self.bad(-1, LINE, (thing, thing, thing))
            if type(thing) is not tuple:
                self.bad(-1, LINE, (thing, PLAIN[1]))
                self.bad(-1, LINE, (PLAIN[0], thing))

    def test_wrong_ins(self):
        for place in range(2):
            # Some kinds among the things are told as INS are.
            told_so = [("whole", 1), ("root", 2), ("rest", 2), ("about", 3)]
            for thing in [thing for thing in THINGS + NO_NAMES if type(thing) is not tuple or thing not in told_so]:
                self.bad(-1, LINE, (PLAIN[0][:place] + (thing,) + PLAIN[0][place + 1:], PLAIN[1]))
                self.bad(-1, LINE, (PLAIN[0][:place] + (thing,), (None,)))
        for name in NO_NAMES:
            self.bad(-1, LINE, (((name, 0),), (ROW,)))
        for number in THINGS:
            if not whole(number) or not 0 <= number < 4:
                self.bad(-1, LINE, ((("a", number),), (ROW,)))
        for number in (-1, 4, 5, -4, 10 ** 60):
            self.bad(-1, LINE, ((("a", number),), (ROW,)))
        for pair in (("a",), ("a", 0, 0), ["a", 0], (0, "a"), "ab", {"a": 0}):
            self.bad(-1, LINE, ((pair,), (ROW,)))
        self.bad(-1, LINE, ((("a", 0), ("b", 1), ("a", 2)), (ROW,)))
        self.bad(-1, LINE, ((("a", 0), ("a", 0)), (ROW,)))

    def test_rows_that_are_no_pair_with_a_name(self):
        for thing in THINGS:
            if not (type(thing) is tuple and len(thing) == 2):
                self.bad(0, LINE, (PLAIN[0], (thing,)))
                self.bad(1, LINE, (PLAIN[0], (ROW, thing, thing)))
        for row in (("e",), ROW + (0,), list(ROW), (ROW[1], ROW[0]), (ROW,)):
            self.bad(2, LINE, (PLAIN[0], PLAIN[1] + (row,)))
        for name in NO_NAMES:
            self.bad(1, LINE, (PLAIN[0], (ROW, (name, ROW[1]))))

    def test_names_told_twice(self):
        for name in ("a", "b", "c", "d"):
            self.bad(2, LINE, (PLAIN[0], PLAIN[1] + ((name, ("worth", 0, 1)),)))
        self.good(LINE, (PLAIN[0], PLAIN[1] + (("e", ("worth", 0, 1)),)))
        self.bad(1, LINE, ((), (ROW, ROW)))

    def test_works_of_every_kind(self):
        for thing in THINGS:
            self.bad(2, LINE, (PLAIN[0], PLAIN[1] + (("e", thing),)))
            self.bad_work(thing)
            if type(thing) is not str or thing not in DEEDS:
                self.bad_work(thing, "a", "b")
            self.bad_work("plus", thing)

    def test_words_that_are_none(self):
        for word in NO_DEEDS + ("Worth", "worths", "row", "name", "number", "in", None, 0, b"plus", ("plus",), ["up"]):
            if word not in ("up", "pick"):
                self.bad_work(word, "a", "b")
                self.bad_work(word, 0, 1)
                self.bad_work(word, "a", "b", "a", "b")

    def test_worths(self):
        for number, kind in enumerate(LINE[0]):
            for thing in THINGS:
                if is_good(kind, thing):
                    self.good_work("worth", number, thing)
                else:
                    self.bad_work("worth", number, thing)
        for thing in THINGS + [-1, 4, 10 ** 60]:
            if not whole(thing) or not 0 <= thing < 4:
                self.bad_work("worth", thing, 1)
                self.bad_work("worth", thing, (1, 1))
        for work in (("worth",), ("worth", 0), ("worth", 0, 1, 1), ("worth", (0, 1)), ("worth", 0, "1")):
            self.bad_work(*work)
        self.bad(0, LINE, ((), (("e", ["worth", 0, 1]),)))
        self.good_work("worth", 0, 10 ** 500)
        self.good_work("worth", 1, (1, 10 ** 500))

    def test_worths_of_finite_kinds(self):
        for tower in (RESTS, OWNS):
            for number, kind in enumerate(tower[0]):
                for worth in (-1, 0, 1, 2, 3, 4, 5, 6, 11, 12, True):
                    program = ((), (("e", ("worth", number, worth)),))
                    self.good(tower, program) if is_good(kind, worth) else self.bad(0, tower, program)

    def test_deeds(self):
        for deed in DEEDS:
            for one in "abcd":
                for other in "abcd":
                    self.good_work(deed, one, other)
            for wrong in NO_NAMES + ["e", "f", "zzzzzz", 1, ("a", "b")]:
                self.bad_work(deed, wrong, "b")
                self.bad_work(deed, "a", wrong)
                self.bad_work(deed, wrong, wrong)
            for work in ((deed,), (deed, "a"), (deed, "a", "b", "c"), (deed, ("a", "b")), (deed, 0, 1)):
                self.bad_work(*work)

    def test_a_name_is_told_behind_its_row_alone(self):
        for work in (("plus", "e", "a"), ("less", "a", "e"), ("up", "e", 0), ("pick", "a", "a", "a", "e")):
            self.bad(2, LINE, (PLAIN[0], PLAIN[1] + (("e", work),)))
            self.bad(2, LINE, (PLAIN[0], PLAIN[1] + (("f", work), ("e", ("worth", 0, 1)))))
            self.good(LINE, (PLAIN[0], PLAIN[1] + (("e", ("worth", 0, 1)), ("f", work))))

    def test_up(self):
        for number in range(4):
            for name in "abcd":
                self.good_work("up", name, number)
        for thing in THINGS + [-1, 4, -4]:
            if not whole(thing) or not 0 <= thing < 4:
                self.bad_work("up", "a", thing)
        for wrong in NO_NAMES + ["e"]:
            self.bad_work("up", wrong, 1)
        for work in (("up",), ("up", "a"), ("up", "a", 1, 1), ("up", 1, "a"), ("up", "a", "b")):
            self.bad_work(*work)

    def test_pick(self):
        self.good_work("pick", "a", "b", "c", "d")
        self.good_work("pick", "a", "a", "a", "a")
        for place in range(4):
            for wrong in NO_NAMES + ["e", 0]:
                names = ["a", "b", "c", "d"]
                names[place] = wrong
                self.bad_work("pick", *names)
        for many in (0, 1, 2, 3, 5, 6):
            self.bad_work("pick", *"abcdab"[:many])

    def test_the_first_wrong_row_is_told(self):
        rows = rows_of(30)
        for place in range(30):
            self.bad(place, LINE, ((), rows[:place] + (None,) + rows[place + 1:]))
            self.bad(place, LINE, ((), rows[:place] + ((rows[place][0], ("worth", 0, None)),) * (30 - place)))

    def test_towers(self):
        self.refuses_towers(is_program, (PLAIN,), (None,))
        self.refuses_towers(need_program, (PLAIN,), (None,))
        self.refused(BadTower, need_program, None, None)


class NamesUsed(ProgramCase):
    def test_by_hand(self):
        program = ((("b", 0), ("a", 1), ("zz", 0)),
                   (("c", ("plus", "a", "b")), ("d", ("worth", 0, 1)), ("e", ("up", "c", 3)),
                    ("f", ("pick", "d", "d", "d", "e")), ("aa", ("times", "d", "d")), ("g", ("less", "zz", "aa"))))
        wanted = [["a", "b"], [], ["a", "b", "c"], ["a", "b", "c", "d", "e"], ["d"], ["aa", "d", "zz"]]
        for place, names in enumerate(wanted):
            self.told(names, names_used, program, place)

    def test_all(self):
        for _, program in some_programs(3, 2, 12):
            hung = {name: set() for name, _ in program[0]}
            for place, (name, (word, *names)) in enumerate(program[1]):
                straight = [] if word == "worth" else names[:1] if word == "up" else names
                hung[name] = set(straight).union(*[hung[part] for part in straight])
                self.told(sorted(hung[name]), names_used, program, place)

    def test_no_place(self):
        for place in (-1, 2, 3, 10 ** 60, -2):
            self.refused(BadNumber, names_used, PLAIN, place)
        for thing in THINGS:
            if not whole(thing) or thing not in (0, 1):
                self.refused(BadNumber, names_used, PLAIN, thing)

    def test_a_told_list_changed(self):
        first = names_used(PLAIN, 0)
        first.append("zz")
        first.reverse()
        self.told(["a", "b"], names_used, PLAIN, 0)

    def test_long_rows(self):
        program = ((), rows_of(30))
        self.told(sorted(NAMES[:29]), names_used, program, 29)
        self.told([], names_used, program, 0)
        self.told(["a"], names_used, program, 1)


class Drawn(ProgramCase):
    def test_spoilt_at_one_row(self):
        draw = Random(4)
        for tower, program in some_programs(5, 2):
            place = draw.randrange(len(program[1]))
            name, work = program[1][place]
            for wrong in (None, (name, work[:-1]), (name, work + ("a",)), (name, list(work)), ("A", work)):
                rows = program[1][:place] + (wrong,) + program[1][place + 1:]
                self.refused_with(BadProgram, {"row": place}, need_program, tower, (program[0], rows))
        self.assertGreater(len(TOWERS), 12)
