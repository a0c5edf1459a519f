"""[77] DESKS: towerwise.desk."""

import unittest

from tests.things import THINGS
from tests.towercase import ALONE
from towerwise.desk import Desk
from towerwise.house import House
from towerwise.writing import kind_text

GREAT = "9" * 61
OWN = "own 01/10 00/01"
LINE = ["kind share", "kind root 2", "kind sure 2", "step 0 1", "step 1 2", "step 2 3"]
ROUNDS = ["kind share", "kind about 3", "kind about 2", "kind about 1", "step 0 1", "step 0 2", "step 0 4", "step 1 2",
          "step 1 3", "step 2 3", "step 3 4"]
# Nothing is above both whole numbers and shares but two kinds, neither above the other.
CROSS = ["kind share", "kind about 3", "kind about 2", "step 0 2", "step 0 3", "step 1 2", "step 1 3"]


class DeskCase(unittest.TestCase):
    def desk(self, *lines):
        """Make a desk to which these lines were said, all of them taken."""
        desk = Desk()
        for line in lines:
            self.assertNotIn(desk.said(line), ("no line", "bad kind", "bad step", "bad name", "bad worth"), line)
        return desk

    def says(self, desk, *pairs):
        """It tells these answers to these lines, one behind the other."""
        for line, answer in pairs:
            told = desk.said(line)
            self.assertIs(type(told), str)
            self.assertEqual(told, answer, line)

    def all_say(self, desk, answer, *lines):
        """It tells the same of all these lines."""
        self.says(desk, *[(line, answer) for line in lines])


class Kinds(DeskCase):
    def test_kinds_more(self):
        desk = Desk()
        self.says(desk, ("kind share", "kind 1"), ("kind root 5", "kind 2"), ("kind rest 12", "kind 3"),
                  ("kind about 3", "kind 4"), ("kind sure 0", "kind 5"), ("kind " + OWN, "kind 6"),
                  ("kind " + kind_text(ALONE[0][0]), "kind 7"), ("kind rest 5", "bad kind"),
                  ("kind rest 5", "bad kind"))

    def test_bad_kinds(self):
        desk = self.desk("kind share")
        self.all_say(desk, "bad kind", "kind whole", "kind share", "kind foo", "kind root", "kind root 4",
                     "kind rest 13",
                     "kind whole 1", "kind Whole", "kind kind whole", "kind own 01/10", "kind own 01/10 0/1",
                     "kind about 02", "kind ; whole", "kind rest 5 ; rest 6")
        self.says(desk, ("kind rest 5", "kind 2"))

    def test_steps(self):
        desk = self.desk("kind share", "kind rest 3", "kind " + OWN, "kind about 1", "kind about 2")
        self.all_say(desk, "done", "step 0 1", "step 2 3 0.1.0", "step 0 2", "step 4 5", "step 1 4")
        self.says(desk, ("ways 0 5", "0>1>4>5"), ("ways 0 3", "0>2>3"))

    def test_bad_steps(self):
        desk = self.desk("kind share", "kind rest 3", "kind " + OWN, "kind about 1", "kind about 2", "step 0 1",
                         "step 4 5")
        self.all_say(desk, "bad step", "step 0 1", "step 1 0", "step 0 0", "step 2 3", "step 2 3 0.1", "step 2 3 0.1.2",
                     "step 2 3 x", "step 2 3 0.1.0.", "step 0 2 0.1", "step 5 4", "step 0 2 x", "step 0 3",
                     "step 0 2 ?")
        self.all_say(desk, "bad kind", "step 0 6", "step 6 0", "step -1 0", "step x 0", "step 0 y", "step 01 0",
                     "step 6 0 x", "step x y z", "step 0 6 0.1")
        self.says(desk, ("step 2 3 0.1.0", "done"))


class Numbers(DeskCase):
    def test_let(self):
        desk = self.desk(*LINE, "kind rest 7", "kind about 2", "kind " + OWN)
        self.all_say(desk, "done", "let a 0 -5", "let b 1 1/2", "let c 2 1 -1/2", "let d 3 0 1/3", "let e 4 6",
                     "let f 5 25 -3", "let g 6 1", "let a 0 7", "let plus 0 1", "let abcdef 0 1")
        self.says(desk, ("do x plus a a", "0 14"), ("do x plus b b", "1 1"), ("do x plus c c", "2 2 -1"),
                  ("do x plus d d", "3 0 2/3"), ("do x plus e e", "4 5"), ("do x plus f f", "5 5 -2"),
                  ("do x times g g", "6 1"), ("do x plus plus abcdef", "0 2"))

    def test_let_refused(self):
        desk = self.desk(*LINE)
        self.all_say(desk, "bad kind", "let a 4 5", "let a x 5", "let A 4 x", "let a -1 5", "let a 00 5")
        self.all_say(desk, "bad name", "let A 0 5", "let abcdefg 0 5", "let a1 0 x", "let 0 0 5", "let ? 1 1/2")
        self.all_say(desk, "bad worth", "let a 0 x", "let a 0 1/2", "let a 0 1 2", "let a 1 2/4", "let a 2 1",
                     "let a 3 1 0", "let a 0 05", f"let a 0 {GREAT}9", "let a 0 ;")
        self.says(desk, ("like a a", "no name"), (f"let a 0 {GREAT}", "done"), ("like a a", "yes"))

    def test_do(self):
        desk = self.desk(*LINE, "let a 0 2", "let b 1 1/3", "let r 2 0 1")
        self.says(desk, ("do c plus a b", "1 7/3"), ("do d times c r", "2 0 7/3"), ("do a less a a", "0 0"),
                  ("do e over b c", "1 1/7"), ("do e over a e", "1 0"), ("order a e", "alike"))

    def test_do_refused(self):
        desk = self.desk(*LINE, "let a 0 2", "let b 1 1/3", "let n 0 0")
        self.all_say(desk, "bad name", "do A plus a b", "do A foo x y", "do 1 plus a b", "do abcdefg over a n")
        self.all_say(desk, "no name", "do c plus a zz", "do c plus zz b", "do c foo a zz", "do c foo zz zz",
                     "do c plus a A")
        self.all_say(desk, "bad deed", "do c foo a b", "do c Plus a b", "do c pick a n", "do c up a n")
        self.all_say(desk, "by nought", "do c over a n", "do c over n n")
        self.says(desk, ("like c c", "no name"), ("do zz over n a", "1 0"))

    def test_no_kind_and_two_kinds(self):
        desk = self.desk(*CROSS, "kind sure 0", "let a 0 1", "let b 1 1/2", "let s 4 0 1", "let n 0 0")
        self.all_say(desk, "two kinds 2 3", "do c plus a b", "do c over a n", "do c over a a")
        self.all_say(desk, "no kind", "do c plus a s", "do c over s n")
        self.says(desk, ("step 2 4", "done"), ("do c plus a s", "4 1 2"), ("step 2 3", "done"), ("do c plus a b",
                  "2 15 -1"))
        # A name that lacks is told ahead of what there is no kind for.
        self.says(desk, ("do c plus a zz", "no name"), ("do C plus a b", "bad name"))

    def test_too_great(self):
        desk = self.desk(*LINE, f"let a 0 {GREAT}")
        answer, many = "", 0
        while answer != "too great":
            answer = desk.said("do a times a a")
            many += 1
        self.assertEqual(many, 3)
        self.says(desk, ("do b plus a a", "0 " + str(2 * (10 ** 61 - 1) ** 4)), ("let n 0 0", "done"))
        self.says(desk, ("do b times a b", "too great"), ("do b over n b", "1 0"))

    def test_like_and_order(self):
        desk = self.desk(*LINE, "kind rest 5", "step 0 4", "let a 0 1", "let b 1 1", "let c 1 3/2", "let r 2 0 1",
                         "let s 3 1 2", "let f 4 3")
        self.says(desk, ("like a b", "yes"), ("order a b", "alike"), ("like a c", "no"), ("order a c", "below"),
                  ("order c a", "above"), ("like r c", "no"), ("order r c", "below"), ("like s c", "perhaps"),
                  ("order s c", "perhaps"), ("like a f", "no"), ("order a f", "no order"), ("like f b", "perhaps"),
                  ("order f b", "no order"), ("like f f", "yes"), ("order f f", "no order"))
        self.all_say(desk, "no name", "like a zz", "like zz a", "order zz f", "order f zz", "order A a", "like a 0")

    def test_like_and_order_too_great(self):
        desk = self.desk("kind about 2", "kind sure 3", "step 1 2", "let a 1 9 400", "let b 2 0 1", "let c 0 1")
        self.all_say(desk, "too great", "like a b", "like b a", "order a b", "do d plus a b", "do a times a a")
        self.says(desk, ("like a a", "yes"), ("like a c", "perhaps"), ("order a c", "no order"), ("like d d",
                  "no name"))


class Asked(DeskCase):
    def test_ways(self):
        desk = self.desk(*ROUNDS)
        self.says(desk, ("ways 0 3", "0>1>2>3, 0>1>3, 0>2>3"), ("ways 3 0", "none"), ("ways 0 0", "0"), ("ways 4 4",
                  "4"),
                  ("ways 1 4", "1>2>3>4, 1>3>4"), ("ways 0 1", "0>1"))
        self.all_say(desk, "bad kind", "ways 0 5", "ways 5 0", "ways x 0", "ways 0 -1", "ways 0 00")

    def test_even(self):
        self.says(Desk(), ("even", "even"))
        self.says(self.desk(*LINE), ("even", "even"))
        self.says(self.desk(*ROUNDS), ("even", "0>1>2>3 0>1>3 1045"))
        self.says(self.desk("kind share", "kind about 2", "kind about 1", "step 1 2", "step 1 3", "step 2 3"),
                  ("even", "1>2>3 1>3 145"))
        self.says(self.desk("kind root 2", "kind sure 0", "kind sure 2", "step 1 2", "step 1 3", "step 2 3"),
                  ("even", "1>2>3 1>3 0 1"))
        self.says(self.desk("kind about 3", "kind about 2", "kind about 1", "step 1 2", "step 1 3", "step 2 3"),
                  ("even", "1>2>3 1>3 145 0"))
        self.says(self.desk("kind rest 4", "kind rest 2", "kind " + OWN, "step 1 2", "step 1 3 0.1.0.0",
                  "step 2 3 1.0"),
                  ("even", "1>2>3 1>3 0"))

    def test_holds(self):
        desk = self.desk("kind share", "kind about 1", "kind own 01/11 00/01", "kind rest 2")
        self.says(desk, ("holds plus a b = plus b a", "all holds holds tried holds holds"),
                  ("holds plus a a = a", "some broken broken broken holds broken"),
                  ("holds less a a = 0", "some holds holds tried lacks holds"),
                  ("holds times a a = a", "some broken broken broken holds holds"),
                  ("holds plus a times 2 b = plus times b 2 a", "all holds holds tried holds holds"),
                  ("holds a = b", "no broken broken broken broken broken"),
                  ("holds 2 = 2", "all holds holds tried holds holds"),
                  ("holds -9 = times -1 9", "some holds holds tried lacks holds"),
                  ("holds over = over", "all holds holds tried holds holds"),
                  ("holds less less a b c = less a plus b c", "some holds holds broken lacks holds"))

    def test_deeds_first_and_both_sides_in_order(self):
        self.says(Desk(), ("holds less 5 2 = 3", "all holds"), ("holds less 2 5 = 3", "no broken"),
                  ("holds less less 9 4 3 = 2", "all holds"), ("holds less 9 less 4 3 = 8", "all holds"),
                  ("holds times plus 1 2 less 9 5 = plus 3 9", "all holds"))

    def test_bad_equations(self):
        desk = Desk()
        self.all_say(desk, "bad equation", "holds a b c", "holds a = =", "holds = a b", "holds a b =", "holds a b = a",
                     "holds plus a = b", "holds a = plus b", "holds plus a b c = a", "holds A = a", "holds 10 = 10",
                     "holds -10 = a", "holds 01 = a", "holds -0 = a", "holds plus = plus", "holds times a = a = b",
                     "holds plus a b = plus c d", "holds a == a", "holds abcdefg = a", "holds a1 = a", "holds ? = ?",
                     "holds plus a plus = a", "holds over a b = a",
                     "holds " + "plus a " * 8 + "a = a", "holds " + "plus " * 2000 + "a = a",
                     "holds " + "plus a " * 3000 + "a = a")
        self.says(desk, ("holds " + "plus a " * 7 + "a = times 8 a", "all holds"))


class Programs(DeskCase):
    def test_programs(self):
        desk = self.desk(*LINE)
        self.says(desk, ("program row a worth 0 5", "kinds 0"),
                  ("program in a 0 ; in b 1 ; row c plus a b ; row d over a a ; row e up a 3", "kinds 1 1 3"),
                  ("program in a 3 ; row b up a 0", "stopped 0 up"),
                  ("program in a 0 ; row b plus a a ; row c up b 1 ; row d up c 0", "stopped 2 up"),
                  ("program in a 0 ; in b 1 ; row c pick a b a b", "kinds 1"))
        cross = self.desk(*CROSS, "kind rest 2")
        self.says(cross, ("program in a 0 ; in b 1 ; row c plus a b", "stopped 0 two 2 3"),
                  ("program in a 0 ; in b 4 ; row c plus a b", "stopped 0 none"),
                  ("program in b 4 ; row c pick b b b b", "stopped 0 order"))

    def test_bad_programs(self):
        desk = self.desk(*LINE)
        self.says(desk, ("program x", "bad program 0 0"), ("program ;", "bad program 0 0"),
                  ("program row a", "bad program 0 2"), ("program in a 0", "bad program 1 0"),
                  ("program in a 4 ; row b up a 1", "bad program 0 2"),
                  ("program in a 0 ; row a up a 1", "bad program 1 1"),
                  ("program in a 0 ; row b up c 1", "bad program 1 3"),
                  ("program row a worth 0 1 ;", "bad program 0 5"),
                  ("program row a worth 0 1 ; ;", "bad program 1 0"),
                  ("program row a worth 0 1 ; ; ;", "bad program 1 0"),
                  ("program row a worth 0 1; row b worth 0 1", "bad program 0 4"),
                  ("program row a worth 0 1 ;row b worth 0 1", "bad program 0 5"),
                  ("program ; row a worth 0 1", "bad program 0 0"), ("program in a 0 ; in a 0", "bad program 1 1"),
                  ("program row a worth 0 1 ; in b 0", "bad program 1 0"))

    def test_blanks_beside_line_ends_are_taken_from_the_left(self):
        # Of " ; ; " the first three signs are a line end, so the row behind it begins with the second mark.
        self.says(self.desk(*LINE), ("program row a worth 0 1 ; ; row b worth 0 1", "bad program 1 0"))

    def test_thirty_rows(self):
        desk = self.desk(*LINE)
        names = [one + other for one in "abcdef" for other in "abcdef"][:31]
        rows = [f"row {name} worth 0 1" for name in names]
        self.says(desk, ("program " + " ; ".join(rows[:30]), "kinds" + " 0" * 30),
                  ("program " + " ; ".join(rows), "bad program 30 0"))
        self.says(desk, ("run", ", ".join(["0 1"] * 30)))

    def test_run(self):
        desk = self.desk(*LINE, "let a 0 2", "let b 1 1/3", "let c 0 5")
        self.says(desk, ("program in x 0 ; in y 1 ; row p plus x y ; row q pick x y x y ; row r up x 3", "kinds 1 1 3"),
                  ("run a b", "1 7/3, 1 1/3, 3 2 2"), ("run c b", "1 16/3, 1 1/3, 3 5 5"),
                  ("run a b", "1 7/3, 1 1/3, 3 2 2"))

    def test_no_program(self):
        desk = self.desk(*LINE, "let a 0 2", "let b 1 1/3")
        self.all_say(desk, "no program", "run", "run a", "run a b")
        self.says(desk, ("program x", "bad program 0 0"), ("run", "no program"))
        self.says(desk, ("program in x 0 ; in y 1 ; row p plus x y", "kinds 1"))
        self.all_say(desk, "no program", "run", "run a", "run b", "run a b a", "run b a", "run a a", "run b b")
        self.all_say(desk, "no name", "run zz", "run a zz", "run zz b", "run a b zz", "run A", "run 0 b")
        self.says(desk, ("run a b", "1 7/3"), ("program in x 3 ; row p up x 0", "stopped 0 up"), ("let s 3 1 2",
                  "done"))
        self.all_say(desk, "no program", "run s", "run a b", "run")
        self.says(desk, ("run zz", "no name"))

    def test_a_bad_program_leaves_the_one_there(self):
        desk = self.desk("let a 0 2")
        self.says(desk, ("program in x 0 ; row p plus x x", "kinds 0"), ("program in x 0 ; row p foo",
                  "bad program 1 2"),
                  ("run a", "0 4"), ("program row q worth 0 9", "kinds 0"), ("run", "0 9"), ("run a", "no program"))

    def test_a_run_that_ends(self):
        desk = self.desk(*LINE, "let a 0 2", "let n 0 0", f"let g 0 {GREAT}")
        self.says(desk, ("program in x 0 ; in y 0 ; row p over x y ; row q times p p", "kinds 1 1"), ("run a n",
                  "by nought"),
                  ("run n a", "1 0, 1 0"), ("do g times g g", "0 " + str((10 ** 61 - 1) ** 2)))
        self.says(desk, ("do g times g g", "0 " + str((10 ** 61 - 1) ** 4)), ("run g a", "too great"),
                  ("run g n", "by nought"))

    def test_the_program_is_judged_anew(self):
        desk = self.desk("kind share", "kind about 2", "step 0 2", "step 1 2", "let a 0 2", "let b 1 1/3")
        self.says(desk, ("program in x 0 ; in y 1 ; row p plus x y", "kinds 2"), ("run a b", "2 23 -1"))
        self.says(desk, ("step 0 1", "done"), ("run a b", "1 7/3"))
        apart = self.desk("kind share", "let a 0 2", "let b 1 1/3")
        self.says(apart, ("program in x 0 ; in y 1 ; row p plus x y", "stopped 0 none"), ("run a b", "no program"),
                  ("kind about 3", "kind 2"), ("step 0 2", "done"), ("run a b", "no program"), ("step 1 2", "done"),
                  ("run a b", "2 233 -2"), ("kind about 2", "kind 3"), ("step 0 3", "done"), ("step 1 3", "done"),
                  ("run a b", "no program"), ("step 2 3", "done"), ("run a b", "2 233 -2"), ("step 0 1", "done"),
                  ("run a b", "1 7/3"))


class Lines(DeskCase):
    def test_what_is_no_line(self):
        desk = self.desk(*LINE, "let a 0 1", "let b 0 2")
        good = ["kind rest 5", "step 0 2", "let c 0 5", "do c plus a b", "like a b", "order a b", "ways 0 1", "even",
                "holds a = a", "program row x worth 0 1", "run"]
        for line in good:
            for wrong in (" " + line, line + " ", "  " + line, line + "\n", "\n" + line, line.replace(" ",
                          "  ", 1) + " ",
                          line.upper(), line[1:], "x " + line, line.replace(" ", "\n", 1) + "\n"):
                self.says(desk, (wrong, "no line"))
            if " " in line:
                self.all_say(desk, "no line", line.replace(" ", "  ", 1), line.replace(" ", "\n", 1))
        self.all_say(desk, "no line", "", " ", "\n", "foo", "KIND share", "kinds", ";", "=", "1")

    def test_by_the_count_of_words(self):
        desk = self.desk(*LINE, "let a 0 1")
        counts = {"kind": (2, 99), "step": (3, 4), "let": (4, 99), "do": (5, 5), "like": (3, 3), "order": (3, 3),
                  "ways": (3, 3), "even": (1, 1), "holds": (4, 99), "program": (2, 99), "run": (1, 99)}
        for word, (least, most) in counts.items():
            for many in range(1, 9):
                told = desk.said(" ".join([word] + ["?"] * (many - 1)))
                self.assertEqual(told == "no line", not least <= many <= most, (word, many))

    def test_things_of_every_kind(self):
        desk = self.desk(*LINE)
        for thing in THINGS + [["kind", "share"], ("even",), b"even", None, 0]:
            self.says(desk, (thing, "no line"))
        self.says(desk, ("even", "even"))

    def test_two_due_at_once(self):
        desk = self.desk(*CROSS, "let a 0 1", "let b 1 1/2", "let n 0 0")
        self.says(desk, ("step 9 0 x", "bad kind"), ("step 0 9 0.1", "bad kind"), ("let A 9 x", "bad kind"),
                  ("let A 0 x", "bad name"), ("do A foo x y", "bad name"), ("do c foo x y", "no name"),
                  ("do c foo a b", "bad deed"), ("do c over a n", "two kinds 2 3"), ("run x", "no name"),
                  ("run a", "no program"), ("order a b", "no order"), ("order x b", "no name"), ("like x y", "no name"),
                  ("program in a 0 ; row b plus a n ; row", "bad program 1 4"))

    def test_what_is_refused_changes_nothing(self):
        desk = self.desk(*ROUNDS, "let a 0 1")
        before = [desk.said(line) for line in ("ways 0 3", "even", "like a a", "holds a = a")]
        for line in ("kind whole", "step 0 1", "step 4 3", "let a 0 x", "let b 9 1", "do a foo a a", "do a over a b",
                     "foo",
                     "program ?", "run a", "holds a", None):
            desk.said(line)
        self.assertEqual([desk.said(line) for line in ("ways 0 3", "even", "like a a", "holds a = a")], before)
        self.says(desk, ("do b plus a a", "0 2"), ("like b c", "no name"))

    def test_two_desks_by_turns(self):
        one, other = Desk(), Desk()
        self.says(one, ("kind share", "kind 1"), ("let a 0 1", "done"))
        self.says(other, ("like a a", "no name"), ("kind rest 2", "kind 1"), ("let a 1 1", "done"), ("run",
                  "no program"))
        self.says(one, ("program row x worth 1 1/2", "kinds 1"), ("do b plus a a", "0 2"), ("step 0 1", "done"))
        self.says(other, ("run", "no program"), ("do b plus a a", "1 0"), ("ways 0 1", "none"), ("kind share",
                  "kind 2"))
        self.says(one, ("run", "1 1/2"), ("ways 0 1", "0>1"), ("kind rest 2", "kind 2"))
        self.assertEqual(House(((("whole",),), ())).names(), [])
