"""[75] What isn't read, and where it goes wrong: towerwise.reading."""

from tests.programcase import NAMES, ProgramCase
from tests.things import KINDS, OWN_SIX, OWN_TWO, THINGS
from tests.towercase import A1, A2, A3, EIGHT, LINE, OWN_FOUR, RESTS, S2, SHARE, WHOLE
from towerwise.errors import BadKind, BadText
from towerwise.reading import read_kind, read_program, read_tower, read_worth
from towerwise.writing import kind_text, program_text, tower_text, worth_text

NO_NUMBERS = ["01", "-0", "+1", "1.0", "x", "-", "1" * 62, "--1", "0x1", "1_0", "1,0"]
NO_NAMES = ["A", "a1", "abcdefg", "0", "a-b", "-", "."]


def spaced(row):
    """List texts of a row with blanks where none may be, or a line end in the place of a blank."""
    return [" " + row, row + " ", row.replace(" ", "  ", 1) if " " in row else row + "  ", "  " + row]


class TextCase(ProgramCase):
    def bad(self, line, word, function, *handed):
        """It is refused with this line and word."""
        self.refused_with(BadText, {"line": line, "word": word}, function, *handed)

    def refuses_no_texts(self, function, *ahead):
        """What is no text is refused with (0, 0); so is the text of no sign."""
        for thing in THINGS + [["whole"], ("whole",), b"whole", None]:
            if type(thing) is not str:
                self.bad(0, 0, function, *ahead, thing)
        self.bad(0, 0, function, *ahead, "")


class Kinds(TextCase):
    def wrong(self, word, text):
        """The text goes wrong at this word; so it does where another row follows."""
        self.bad(0, word, read_kind, text)
        self.bad(0, word, read_kind, text + "\nwhole")

    def test_words(self):
        for text in ("foo", "Whole", "0", "wholes", "own5", "kind whole", "root5", "plus", "name 3", "in a 0"):
            self.wrong(0, text)
        for kind in KINDS:
            text = kind_text(kind)
            many = len(text.split(" "))
            self.wrong(many, text + " x")
            self.wrong(many, text + " 1 2")
            for wrong in spaced(text):
                self.wrong(0, wrong)
            for place in range(many):
                self.wrong(place, " ".join(text.split(" ")[:place] + ["?"] + text.split(" ")[place + 1:]))
                if place:
                    self.wrong(place, " ".join(text.split(" ")[:place]))

    def test_numbers(self):
        for word, wrong in (("root", (0, 1, 4, 8, 9, 60, 61, 49, -2)), ("rest", (-2, 0, 1, 13)), ("about", (0, 4, -1)),
                            ("sure", (-1, 7, 10 ** 60))):
            for number in list(wrong) + NO_NUMBERS:
                self.wrong(1, f"{word} {number}")
                self.wrong(1, f"{word} {number} 5")
            self.wrong(1, word)
            self.wrong(2, f"{word} 2 2")
        self.wrong(1, "whole 1")
        self.wrong(1, "share 1/2")

    def test_tables(self):
        for table in ("0", "01", "01/1", "01/102", "01/12", "01/1a", "0/1", "01/10/", "/01/10", "012/120", "01//10",
                      "01\\10", "012/120/203", "0 1/1 0", "01/-1", "0123456/" * 6 + "0123456", "00/0/0", "01-10"):
            self.wrong(1, f"own {table} 00/01")
            if " " not in table:
                self.wrong(2, f"own 00/01 {table}")
        self.wrong(2, "own 01/10 012/120/201")
        self.wrong(2, "own 012/120/201 01/10")
        self.wrong(1, "own")
        self.wrong(2, "own 01/10")
        self.wrong(3, "own 01/10 00/01 00/01")
        self.told(OWN_TWO, read_kind, "own 01/10 00/01")

    def test_rows(self):
        for kind in KINDS:
            for behind in ("\n", "\nwhole", "\n\n", "\nfoo", "\n ", "\nroot 2"):
                self.bad(1, 0, read_kind, kind_text(kind) + behind)
                self.bad(0, 0, read_kind, "\n" + kind_text(kind) + behind)
        self.bad(0, 1, read_kind, "root\n2")

    def test_no_texts(self):
        self.refuses_no_texts(read_kind)
        for text in (" ", "  ", "\n", "\n\n"):
            self.bad(0, 0, read_kind, text)


class Worths(TextCase):
    def wrong(self, kind, word, text):
        """The text goes wrong at this word; so it does where another row follows."""
        self.bad(0, word, read_worth, kind, text)
        self.bad(0, word, read_worth, kind, text + "\n0")

    def test_one_word(self):
        for kind in (WHOLE, ("rest", 7), ("rest", 12), OWN_TWO, OWN_SIX, SHARE):
            for text in NO_NUMBERS + ["1/0", "2/4", "1/-2", "1/1", "0/2", "1/2/3", "/2", "1/", "-0/3", "3/01"]:
                self.wrong(kind, 0, text)
            self.wrong(kind, 1, "1 1")
            for text in spaced("1"):
                self.wrong(kind, 0, text)
        for text in ("7", "-1", "12", "1/2"):
            self.wrong(("rest", 7), 0, text)
        for kind, many in ((OWN_TWO, 2), (OWN_SIX, 6), (OWN_FOUR, 4), (("rest", 12), 12)):
            self.wrong(kind, 0, str(many))
            self.told(many - 1, read_worth, kind, str(many - 1))
        self.wrong(WHOLE, 0, "1/2")

    def test_roots_and_sure_bounds(self):
        for kind in (("root", 2), S2):
            for text in NO_NUMBERS + ["2/4", "1/1", "1/0", "x/2"]:
                self.wrong(kind, 0, f"{text} 1")
                self.wrong(kind, 0, f"{text}")
                self.wrong(kind, 1, f"1 {text}")
                self.wrong(kind, 1, f"1/2 {text} 7")
            self.wrong(kind, 1, "1")
            self.wrong(kind, 2, "1 2 3")
            for text in spaced("1 2"):
                self.wrong(kind, 0, text)
        for text in ("1 0", "1/2 1/3", "-1 -2", "0 -1/9"):
            self.wrong(S2, 1, text)
            self.wrong(S2, 1, text + " 5")
        self.told(((1, 1), (0, 1)), read_worth, ("root", 2), "1 0")

    def test_about(self):
        for kind, most in ((A1, 9), (A2, 99), (A3, 999)):
            for front in (most + 1, -most - 1, 10, -10, 100, -200, 10 ** 60):
                self.wrong(kind, 0, f"{front} 0")
                self.wrong(kind, 0, f"{front}")
            for power in (401, -401, 10 ** 60):
                self.wrong(kind, 1, f"{most} {power}")
            for wrong in NO_NUMBERS + ["1/2"]:
                self.wrong(kind, 0, f"{wrong} 0")
                self.wrong(kind, 1, f"1 {wrong}")
            self.wrong(kind, 1, "1")
            self.wrong(kind, 1, "0")
            self.wrong(kind, 1, "0 1")
            self.wrong(kind, 1, "0 -400")
            self.wrong(kind, 2, "1 0 0")
            self.wrong(kind, 2, "0 0 0")
            self.told((most, -400), read_worth, kind, f"{most} -400")

    def test_longer_numbers_are_written_but_not_read(self):
        for number in (10 ** 61, -10 ** 61, 10 ** 300):
            self.wrong(WHOLE, 0, worth_text(WHOLE, number))
            self.wrong(SHARE, 0, worth_text(SHARE, (number + 1, 3)))
            self.wrong(("root", 2), 1, worth_text(("root", 2), ((1, 2), (1, abs(number)))))

    def test_rows(self):
        for kind, text in ((WHOLE, "5"), (SHARE, "1/2"), (("root", 2), "1 2"), (A2, "5 0"), (S2, "1 2"),
                           (OWN_TWO, "1")):
            for behind in ("\n", "\n5", "\n\n", "\n "):
                self.bad(1, 0, read_worth, kind, text + behind)
        self.bad(0, 1, read_worth, A2, "5\n0")

    def test_refusals(self):
        self.refuses_kinds(read_worth)
        for kind in (WHOLE, SHARE, A2, S2, OWN_TWO, ("rest", 2), ("root", 2)):
            self.refuses_no_texts(read_worth, kind)

    def refuses_kinds(self, function):
        """What is no KIND is refused ahead of what is no text."""
        for thing in THINGS:
            if thing not in KINDS and not (type(thing) is tuple and thing in KINDS + [("sure", 6), ("rest", 2)]):
                self.refused(BadKind, function, thing, "5")
                self.refused(BadKind, function, thing, None)
        for kind in (("root", 4), ("rest", True), ["whole"], OWN_TWO[:2]):
            self.refused(BadKind, function, kind, "1")


HEAD = "kind whole\nkind share\nkind rest 3\nkind own 01/10 00/01\nkind about 1\nkind about 2\nkind rest 6"


class Towers(TextCase):
    def wrong(self, line, word, *rows):
        """Behind the head, these rows go wrong there; so they do with a row behind them."""
        text = "\n".join((HEAD,) + rows)
        self.bad(7 + line, word, read_tower, text)
        if line < len(rows):
            self.bad(7 + line, word, read_tower, text + "\nstep 0 1")
            self.bad(7 + line, word, read_tower, text + "\n")

    def test_words_of_the_first_row(self):
        for row in ("kin whole", "whole", "step", "step 0 1", "step x", "step 0 1 0.1", "in a 0", "row", "Kind whole",
                    " kind whole", "kind  whole", "kind whole ", "step 0"):
            self.bad(0, 0, read_tower, row)
            self.bad(0, 0, read_tower, row + "\nkind whole")
        self.bad(0, 1, read_tower, "kind")
        self.bad(0, 1, read_tower, "kind foo")
        self.bad(0, 2, read_tower, "kind whole 5")
        self.bad(0, 2, read_tower, "kind root")
        self.bad(0, 2, read_tower, "kind root 4")
        self.bad(0, 3, read_tower, "kind own 01/10")
        self.bad(0, 3, read_tower, "kind own 01/10 0/1 5")
        self.bad(0, 4, read_tower, "kind own 01/10 00/01 5")

    def test_each_kind_spoilt(self):
        rows = HEAD.split("\n")
        for line, row in enumerate(rows):
            words = row.split(" ")
            for place in range(len(words)):
                spoilt = " ".join(words[:place] + ["?"] + words[place + 1:])
                self.bad(line, place, read_tower, "\n".join(rows[:line] + [spoilt] + rows[line + 1:]))
                cut = " ".join(words[:place])
                self.bad(line, place, read_tower, "\n".join(rows[:line] + [cut] + rows[line + 1:]))
            more = "\n".join(rows[:line] + [row + " 5"] + rows[line + 1:])
            self.bad(line, len(words), read_tower, more)
            for wrong in spaced(row):
                self.bad(line, 0, read_tower, "\n".join(rows[:line] + [wrong] + rows[line + 1:]))

    def test_kinds_that_stand_ahead(self):
        rows = HEAD.split("\n")
        for line in range(1, 7):
            for ahead in range(line):
                self.bad(line, 0, read_tower, "\n".join(rows[:line] + [rows[ahead]] + rows[line + 1:]))
                self.bad(line, len(rows[ahead].split(" ")), read_tower, "\n".join(rows[:line] + [rows[ahead] + " 5"]))

    def test_a_ninth_kind_and_one_behind_steps(self):
        eight = tower_text((EIGHT[0], ()))
        for row in ("kind rest 5", "kind whole", "kind foo", "kind"):
            self.bad(8, 0, read_tower, f"{eight}\n{row}")
            self.wrong(1, 0, "step 0 1", row)
        self.assertEqual(read_tower(tower_text(EIGHT)), EIGHT)

    def test_step_words(self):
        for word in NO_NUMBERS + ["7", "8", "-1", "100"]:
            self.wrong(0, 1, f"step {word} 1")
            self.wrong(0, 1, f"step {word} {word} ?")
            self.wrong(0, 1, f"step {word}")
            self.wrong(0, 2, f"step 0 {word}")
            self.wrong(0, 2, f"step 0 {word} 0.1 5")
        self.wrong(0, 1, "step")
        self.wrong(0, 2, "step 0")
        self.wrong(0, 0, "steps 0 1")
        self.wrong(0, 0, "0 1")
        self.wrong(0, 0, "")
        for row in spaced("step 0 1"):
            self.wrong(0, 0, row)

    def test_row_words(self):
        for word in ("x", "0.x", "0..1", ".0", "0.", "0,1", "00.1", "0.01", "-", "0.-0", "0.1.", "(0.1)"):
            self.wrong(0, 3, f"step 2 3 {word}")
            self.wrong(0, 3, f"step 2 3 {word} 5")
            self.wrong(0, 3, f"step 0 1 {word}")
        self.wrong(0, 4, "step 2 3 0.1.0 5")
        self.wrong(0, 4, "step 2 3 0.1 5")
        self.wrong(0, 4, "step 0 1 0.1 5")
        self.wrong(0, 3, "step 0 1 None")

    def test_steps_that_can_not_stand(self):
        for row in ("step 2 3", "step 2 3 0.1", "step 2 3 0.1.0.1", "step 2 3 0.1.2", "step 2 3 0", "step 2 3 0.1.-1",
                    "step 0 1 0.1", "step 0 1 0", "step 1 0", "step 2 6", "step 6 2 0.1.2.0.1.2", "step 0 3",
                    "step 0 3 0.1", "step 3 2 0.1", "step 4 0", "step 0 0", "step 3 3 0.1", "step 6 6", "step 1 2",
                    "step 2 3 9.9.9"):
            self.wrong(0, 0, row)
            self.wrong(1, 0, "step 0 1", row)
        for row in ("step 2 3 0.1.0", "step 6 2", "step 6 3 0.0.0.0.0.1", "step 0 1"):
            self.assertEqual(len(read_tower(f"{HEAD}\n{row}")[1]), 1)

    def test_steps_that_do_not_rise(self):
        self.wrong(1, 0, "step 0 1", "step 0 1")
        self.wrong(1, 0, "step 0 2", "step 0 1")
        self.wrong(1, 0, "step 1 4", "step 0 5")
        self.wrong(2, 0, "step 0 1", "step 6 2", "step 2 3 0.1.0")
        self.wrong(2, 0, "step 0 1", "step 0 4", "step 0 1")
        self.wrong(1, 3, "step 0 2", "step 0 1 x")

    def test_rings(self):
        self.wrong(2, 0, "step 4 5", "step 5 4")
        self.wrong(3, 0, "step 0 1", "step 4 5", "step 5 4")
        self.bad(6, 0, read_tower, "kind sure 0\nkind sure 1\nkind sure 2\nstep 0 1\nstep 1 2\nstep 2 0")
        # A row that can't stand is told ahead of a ring.
        self.wrong(2, 0, "step 4 5", "step 5 4", "step 5 4")
        self.wrong(2, 1, "step 4 5", "step 5 4", "step x")

    def test_rows(self):
        self.bad(7, 0, read_tower, HEAD + "\n")
        self.bad(7, 0, read_tower, HEAD + "\n\nstep 0 1")
        self.bad(0, 0, read_tower, "\n" + HEAD)
        self.bad(1, 0, read_tower, "kind whole\n\nkind share")
        for row in ("foo", "in a 0", "row a worth 0 1", "STEP 0 1"):
            self.wrong(0, 0, row)

    def test_no_texts(self):
        self.refuses_no_texts(read_tower)
        for text in (" ", "\n", "kind", "whole"):
            self.bad(0, 1 if text == "kind" else 0, read_tower, text)


INS = "in a 0\nin b 1"


class Programs(TextCase):
    def wrong(self, line, word, *rows):
        """Behind two INS and a row, these rows go wrong there; so they do with more behind them."""
        text = "\n".join((INS, "row c plus a b") + rows)
        self.bad(3 + line, word, read_program, LINE, text)
        self.bad(3 + line, word, read_program, LINE, text + "\nrow z up a 3")
        self.bad(3 + line, word, read_program, LINE, text + "\n?")

    def wrong_in(self, word, row):
        """A second row of INS goes wrong there."""
        self.bad(1, word, read_program, LINE, f"in a 0\n{row}\nrow c worth 0 1")
        self.bad(1, word, read_program, LINE, f"in a 0\n{row}")

    def test_ins(self):
        for row in ("on b 1", "", " in b 1", "in  b 1", "in b 1 ", "IN b 1", "b 1"):
            self.wrong_in(0, row)
        for name in NO_NAMES + ["a"]:
            self.wrong_in(1, f"in {name} 1")
            self.wrong_in(1, f"in {name} x y")
        for number in NO_NUMBERS + ["4", "-1", "b"]:
            self.wrong_in(2, f"in b {number}")
            self.wrong_in(2, f"in b {number} 5")
        self.wrong_in(1, "in")
        self.wrong_in(2, "in b")
        self.wrong_in(3, "in b 1 1")

    def test_a_seventh_one_and_one_behind_rows(self):
        six = "\n".join(f"in {name} 0" for name in NAMES[:6])
        self.assertEqual(len(read_program(LINE, six + "\nrow zz up a 1")[0]), 6)
        for row in ("in zz 0", "in", "in ?"):
            self.bad(6, 0, read_program, LINE, f"{six}\n{row}")
            self.bad(6, 0, read_program, LINE, f"{six}\n{row}\nrow zz up a 1")
            self.wrong(0, 0, row)

    def test_a_row_that_lacks(self):
        self.bad(2, 0, read_program, LINE, INS)
        self.bad(1, 0, read_program, LINE, "in a 0")
        self.bad(2, 0, read_program, LINE, INS + "\n")

    def test_thirty_rows_and_thirty_one(self):
        rows = [f"row {name} worth 0 1" for name in NAMES[:31]]
        self.assertEqual(len(read_program(LINE, "\n".join(rows[:30]))[1]), 30)
        self.bad(30, 0, read_program, LINE, "\n".join(rows))
        self.bad(30, 0, read_program, LINE, "\n".join(rows[:30] + ["row"]))
        self.bad(30, 0, read_program, LINE, "\n".join(rows[:30] + ["row ?"]))
        self.bad(36, 0, read_program, LINE, "\n".join([f"in x{name}"[:5] + " 0" for name in "abcdef"] + rows))

    def test_words_of_rows(self):
        for row in ("", "raw d up a 1", "d up a 1", " row d up a 1", "row  d up a 1", "row d up a 1 ", "ROW d up a 1"):
            self.wrong(0, 0, row)
        for name in NO_NAMES + ["a", "b", "c"]:
            self.wrong(0, 1, f"row {name} up a 1")
            self.wrong(0, 1, f"row {name}")
            self.wrong(0, 1, f"row {name} ? ?")
        for word in ("Plus", "add", "worths", "own", "in", "row", "0", "like"):
            self.wrong(0, 2, f"row d {word} a b")
            self.wrong(0, 2, f"row d {word}")
        self.wrong(0, 1, "row")
        self.wrong(0, 2, "row d")

    def test_deeds(self):
        for deed in ("plus", "less", "times", "over"):
            for name in NO_NAMES + ["d", "e", "aa", "plus"]:
                self.wrong(0, 3, f"row d {deed} {name} b")
                self.wrong(0, 3, f"row d {deed} {name} ? ?")
                self.wrong(0, 4, f"row d {deed} a {name}")
                self.wrong(0, 4, f"row d {deed} c {name} ?")
            self.wrong(0, 3, f"row d {deed}")
            self.wrong(0, 4, f"row d {deed} a")
            self.wrong(0, 5, f"row d {deed} a b c")

    def test_up(self):
        for name in NO_NAMES + ["d", "e"]:
            self.wrong(0, 3, f"row d up {name} 1")
        for number in NO_NUMBERS + ["4", "-1", "a"]:
            self.wrong(0, 4, f"row d up a {number}")
            self.wrong(0, 4, f"row d up a {number} ?")
        self.wrong(0, 3, "row d up")
        self.wrong(0, 4, "row d up a")
        self.wrong(0, 5, "row d up a 1 1")

    def test_pick(self):
        for place in range(4):
            for name in NO_NAMES + ["d", "e"]:
                names = ["a", "b", "c", "a"]
                names[place] = name
                self.wrong(0, 3 + place, "row d pick " + " ".join(names))
                self.wrong(0, 3 + place, "row d pick " + " ".join(names[:place + 1]))
            self.wrong(0, 3 + place, " ".join(["row d pick"] + ["a", "b", "c", "a"][:place]))
        self.wrong(0, 7, "row d pick a b c a b")

    def test_worths(self):
        for number in NO_NUMBERS + ["4", "-1", "a"]:
            self.wrong(0, 3, f"row d worth {number} 1")
            self.wrong(0, 3, f"row d worth {number}")
        self.wrong(0, 3, "row d worth")
        for number in range(4):
            self.wrong(0, 4, f"row d worth {number}")
            self.wrong(0, 4, f"row d worth {number} x")
        self.wrong(0, 4, "row d worth 0 1/2")
        self.wrong(0, 5, "row d worth 0 1 2")
        self.wrong(0, 4, "row d worth 1 2/4")
        self.wrong(0, 5, "row d worth 1 1/2 1")
        self.wrong(0, 5, "row d worth 2 1/2")
        self.wrong(0, 5, "row d worth 2 1/2 2/2")
        self.wrong(0, 6, "row d worth 2 1/2 2 2")
        self.wrong(0, 5, "row d worth 3 1 0")
        self.wrong(0, 6, "row d worth 3 1 1 0")

    def test_worths_of_finite_and_about_kinds(self):
        for row, word in (("row d worth 1 12", 4), ("row d worth 4 2", 4), ("row d worth 5 2", 4),
                          ("row d worth 5 -1", 4), ("row d worth 5 1 1", 5)):
            self.bad(0, word, read_program, RESTS, row)
        for row, word in (("row d worth 2 10 0", 4), ("row d worth 2 0 1", 5), ("row d worth 2 1 401", 5),
                          ("row d worth 2 1", 5), ("row d worth 2 1 1 1", 6)):
            self.bad(0, word, read_program, EIGHT, row)

    def test_the_first_wrong_row_is_told(self):
        self.wrong(1, 3, "row d up a 1", "row e plus x b", "row f")
        self.wrong(2, 1, "row d up a 1", "row e plus d b", "row e")
        self.bad(0, 2, read_program, LINE, "in a 9\nin a 9\nrow")

    def test_refusals(self):
        self.refuses_towers(read_program, ("row a worth 0 1",), (None,))
        self.refuses_no_texts(read_program, LINE)
        for text in (" ", "\n", "row"):
            self.bad(0, 1 if text == "row" else 0, read_program, LINE, text)
        self.assertEqual(program_text(LINE, read_program(LINE, INS + "\nrow c plus a b")), INS + "\nrow c plus a b")
