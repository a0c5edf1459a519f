"""[74] Texts of kinds, worths, towers and programs, written and read again: towerwise.writing, towerwise.reading."""

from tests.mixedcase import TOWERS
from tests.programcase import PLAIN, ProgramCase, some_programs
from tests.test_judged import of
from tests.test_towerlook import T1, T2
from tests.things import KINDS, OWN_SIX, OWN_TWO
from tests.towercase import A2, A3, ALONE, LINE, OWN_FOUR, OWNS, S2, SHARE, WHOLE, some_worths
from towerwise.mixed import mixed_deed
from towerwise.reading import read_kind, read_program, read_tower, read_worth
from towerwise.worths import worth_at
from towerwise.writing import kind_text, program_text, tower_text, worth_text


class Kinds(ProgramCase):
    def both(self, text, kind):
        """The kind is written so, and read again."""
        self.told(text, kind_text, kind)
        self.told(kind, read_kind, text)

    def test_by_hand(self):
        for text, kind in (("whole", WHOLE), ("share", SHARE), ("root 5", ("root", 5)), ("root 59", ("root", 59)),
                           ("rest 12", ("rest", 12)), ("about 2", A2), ("sure 0", ("sure", 0)),
                           ("own 01/10 00/01", OWN_TWO),
                           ("own 0123/1032/2301/3210 0000/0123/0231/0312", OWN_FOUR)):
            self.both(text, kind)

    def test_each_sort(self):
        for kind in KINDS + [kind for tower in TOWERS + [T1, T2] for kind in tower[0]]:
            self.told(kind, read_kind, kind_text(kind))
        for word, most in (("root", 60), ("rest", 12), ("about", 3), ("sure", 6)):
            for number in range(most + 1):
                if word != "root" and number > 1 or number in (2, 3, 30, 58):
                    self.both(f"{word} {number}", (word, number))


class Worths(ProgramCase):
    def both(self, text, kind, worth):
        """The worth is written so, and read again."""
        self.told(text, worth_text, kind, worth)
        self.told(worth, read_worth, kind, text)

    def test_by_hand(self):
        for text, kind, worth in (
                ("0", WHOLE, 0), ("-12", WHOLE, -12), ("5", SHARE, (5, 1)), ("-1/2", SHARE, (-1, 2)),
                ("0", SHARE, (0, 1)), ("10/3", SHARE, (10, 3)), ("1/2 -3", ("root", 2), ((1, 2), (-3, 1))),
                ("0 0", ("root", 2), ((0, 1), (0, 1))), ("11", ("rest", 12), 11), ("25 -3", A2, (25, -3)),
                ("0 0", A2, (0, 0)), ("-999 400", A3, (-999, 400)), ("1/3 1/2", S2, ((1, 3), (1, 2))),
                ("-4 -4", S2, ((-4, 1), (-4, 1))), ("5", OWN_SIX, 5)):
            self.both(text, kind, worth)

    def test_each_sort(self):
        for kind in KINDS:
            for worth in some_worths(kind):
                self.told(worth, read_worth, kind, worth_text(kind, worth))
            for place in range(2 if kind[0] in ("rest", "own") else 15):
                self.told(worth_at(kind, place), read_worth, kind, worth_text(kind, worth_at(kind, place)))

    def test_longest_numbers(self):
        for number in (10 ** 60, -10 ** 60, 10 ** 61 - 1):
            self.both(str(number), WHOLE, number)
            self.both(f"{number}/7", SHARE, (number, 7))
        self.told("1" + "0" * 300, worth_text, WHOLE, 10 ** 300)
        self.told("9" * 3999, worth_text, WHOLE, 10 ** 3999 - 1)
        self.told("1/" + "3" * 300, worth_text, SHARE, (1, (10 ** 300 - 1) // 3))

    def test_what_came_of_deeds(self):
        number = mixed_deed(LINE, "over", (0, 7), (0, 3))
        self.told("7/3", worth_text, LINE[0][number[0]], number[1])


class Towers(ProgramCase):
    def test_by_hand(self):
        for text, tower in (
                ("kind whole", ((WHOLE,), ())),
                ("kind whole\nkind share\nkind root 2\nkind sure 2\nstep 0 1\nstep 1 2\nstep 2 3", LINE),
                ("kind rest 3\nkind own 01/10 00/01\nkind whole\nstep 0 1 0.1.0\nstep 2 0",
                 ((("rest", 3), OWN_TWO, WHOLE), ((0, 1, (0, 1, 0)), (2, 0, None)))),
                ("kind own 01/10 00/01\nkind rest 12\nstep 1 0 0.1.0.1.0.1.1.1.0.0.0.0",
                 ((OWN_TWO, ("rest", 12)), ((1, 0, (0, 1, 0, 1, 0, 1, 1, 1, 0, 0, 0, 0)),)))):
            self.told(text, tower_text, tower)
            self.told(tower, read_tower, text)

    def test_each_sort(self):
        for tower in TOWERS + [T1, T2]:
            self.told(tower, read_tower, tower_text(tower))
            self.assertEqual(len(tower_text(tower).split("\n")), len(tower[0]) + len(tower[1]))

    def test_rows_of_steps(self):
        text = tower_text(OWNS).split("\n")[4:]
        self.assertEqual(text, ["step 0 1 0.1.2.0.1.2", "step 0 2 0.1.0.1.0.1", "step 1 3 0.3.1", "step 2 3 0.0"])


class Programs(ProgramCase):
    def test_by_hand(self):
        program = of(("worth", 2, ((1, 2), (-3, 1))), ("plus", "a", "b"), ("less", "b", "a"), ("times", "c", "c"),
                     ("over", "a", "p"), ("up", "a", 3), ("pick", "a", "b", "c", "p"), ("worth", 0, -5))
        text = ("in a 0\nin b 1\nin c 2\nin d 3\nrow p worth 2 1/2 -3\nrow q plus a b\nrow r less b a\n"
                "row s times c c\nrow t over a p\nrow u up a 3\nrow v pick a b c p\nrow w worth 0 -5")
        self.told(text, program_text, LINE, program)
        self.told(program, read_program, LINE, text)
        self.told("row a worth 0 7", program_text, ALONE, ((), (("a", ("worth", 0, 7)),)))
        self.told("in a 0\nin b 1\nrow c plus a b\nrow d worth 3 0 1", program_text, LINE, PLAIN)

    def test_each_sort(self):
        for tower, program in some_programs(61, 6) + some_programs(62, 3, 30) + some_programs(63, 3, stops=True):
            self.told(program, read_program, tower, program_text(tower, program))
