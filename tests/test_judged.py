"""[61] PROGRAMS judged ahead: towerwise.judged."""

from tests.programcase import PLAIN, ProgramCase, judged_found, some_programs
from tests.test_above import CROSS, TURNED
from tests.things import OWN_TWO, THINGS, whole
from tests.towercase import A2, A3, APART, FALLING, FORK, LINE, OWNS, REST, RESTS, ROUNDS, S0, SHARE, WHOLE, steps
from towerwise.errors import BadNumber, BadProgram, BadTower
from towerwise.judged import kind_of, kinds_judged

INS = (("a", 0), ("b", 1), ("c", 2), ("d", 3))
# Two rests and an own kind, from which ways lead to rests and own kinds alone.
FINITES = ((WHOLE, REST, ("rest", 2), OWN_TWO), steps((0, 1), (1, 2), (2, 3, (0, 1))))


def of(*works, ins=INS):
    """Make a program of these INS with rows of these works, called p, q, r .."""
    return (ins, tuple((name, work) for name, work in zip("pqrstuvw", works)))


class KindsJudged(ProgramCase):
    def stopped(self, tower, place, why, *works):
        """The program of these works is stopped there, so."""
        program = of(*works)
        self.told(("stopped", place) + why, kinds_judged, tower, program)
        for number in range(len(works)):
            kind = kind_of(tower, program, number)
            self.assertEqual(kind is None, number >= place)

    def judged(self, tower, kinds, *works):
        """The rows of these works are of these kinds."""
        program = of(*works)
        self.told(("kinds", kinds), kinds_judged, tower, program)
        for place, number in enumerate(kinds):
            self.told(number, kind_of, tower, program, place)

    def test_all(self):
        for tower, program in some_programs(11, 6) + some_programs(12, 12, stops=True):
            found = judged_found(tower, program)
            self.told(found, kinds_judged, tower, program)
            for place in range(len(program[1])):
                stopped = found[0] == "stopped" and place >= found[1]
                self.told(None if stopped else kind_of(tower, program, place), kind_of, tower, program, place)
                if not stopped and found[0] == "kinds":
                    self.told(found[1][place], kind_of, tower, program, place)

    def test_each_work(self):
        self.judged(LINE, (2,), ("worth", 2, ((0, 1), (1, 1))))
        self.judged(LINE, (0, 1, 3, 1), ("plus", "a", "a"), ("over", "a", "a"), ("less", "d", "a"), ("times", "b", "a"))
        self.judged(LINE, (0, 1, 2, 3, 3), *[("up", "a", number) for number in range(4)], ("up", "d", 3))
        self.judged(LINE, (0, 3, 1), ("pick", "d", "c", "a", "a"), ("pick", "a", "a", "a", "d"),
                    ("pick", "b", "b", "a", "b"))
        self.judged(RESTS, (4, 4, 3), ("plus", "c", "d"), ("over", "b", "b"), ("up", "b", 3))

    def test_kinds_of_rows_go_on(self):
        self.judged(LINE, (1, 1, 2, 2, 3), ("over", "a", "a"), ("plus", "p", "a"), ("up", "q", 2), ("plus", "r", "p"),
                    ("plus", "s", "d"))

    def test_none(self):
        for deed in ("plus", "less", "times", "over"):
            self.stopped(APART, 0, ("none",), (deed, "a", "b"))
            self.stopped(FORK, 1, ("none",), ("worth", 0, 1), (deed, "c", "d"))
        self.stopped(APART, 0, ("none",), ("over", "a", "a"))
        self.judged(APART, (0,), ("plus", "a", "a"))
        self.stopped(APART, 0, ("none",), ("pick", "a", "b", "a", "a"))
        self.stopped(APART, 0, ("none",), ("pick", "a", "a", "a", "b"))
        self.stopped(APART, 1, ("none",), ("worth", 0, 1), ("pick", "a", "d", "a", "a"), ("plus", "a", "a"))

    def test_two(self):
        for deed in ("plus", "less", "times", "over"):
            self.stopped(CROSS, 0, ("two", 2, 3), (deed, "a", "b"))
            self.stopped(TURNED, 2, ("two", 1, 2), ("up", "d", 0), ("worth", 4, 1), (deed, "d", "q"))
        self.stopped(CROSS, 0, ("two", 2, 3), ("over", "a", "a"))
        self.stopped(CROSS, 0, ("two", 2, 3), ("pick", "a", "b", "a", "a"))
        self.stopped(CROSS, 0, ("two", 2, 3), ("pick", "a", "a", "b", "a"))
        self.judged(CROSS, (0, 0, 1), ("plus", "a", "a"), ("pick", "a", "a", "a", "a"), ("pick", "a", "a", "b", "b"))

    def test_up(self):
        self.stopped(LINE, 0, ("up",), ("up", "d", 0))
        self.stopped(LINE, 0, ("up",), ("up", "b", 0))
        self.stopped(FORK, 2, ("up",), ("up", "a", 3), ("up", "b", 2), ("up", "p", 2), ("up", "a", 4))
        self.stopped(APART, 0, ("up",), ("up", "a", 1))
        self.judged(APART, (0, 3), ("up", "a", 0), ("up", "d", 3))

    def test_order(self):
        self.stopped(RESTS, 0, ("order",), ("pick", "b", "c", "a", "a"))
        self.stopped(RESTS, 0, ("order",), ("pick", "b", "b", "a", "a"))
        self.stopped(RESTS, 0, ("order",), ("pick", "a", "c", "a", "a"))
        self.stopped(OWNS, 0, ("order",), ("pick", "a", "a", "a", "a"))
        self.stopped(OWNS, 0, ("order",), ("pick", "a", "b", "a", "a"))
        self.stopped(FINITES, 0, ("order",), ("pick", "a", "b", "a", "a"))
        self.judged(RESTS, (1,), ("pick", "a", "a", "b", "b"))
        self.judged(FINITES, (3,), ("pick", "a", "a", "b", "d"))

    def test_the_first_two_of_a_pick_go_ahead(self):
        tower = ((WHOLE, SHARE, A3, A2, S0, REST, ("rest", 5), OWN_TWO),
                 steps((0, 2), (0, 3), (0, 5), (1, 2), (1, 3), (2, 4), (3, 4)))
        ins = (("w", 0), ("s", 1), ("r", 5), ("f", 6), ("o", 7))
        works = {"none": "ro", "two": "ws", "order": "rr"}
        wants = {"none": ("none",), "two": ("two", 2, 3), "order": ("order",)}
        for why, names in works.items():
            for last in list(works.values()) + ["ww"]:
                program = of(("pick", *names, *last), ins=ins)
                self.told(("stopped", 0) + wants[why], kinds_judged, tower, program)
        for why in ("none", "two"):
            program = of(("pick", "w", "w", *works[why]), ins=ins)
            self.told(("stopped", 0) + wants[why], kinds_judged, tower, program)
        self.told(("kinds", (5,)), kinds_judged, tower, of(("pick", "w", "w", "r", "r"), ins=ins))
        self.told(("kinds", (5,)), kinds_judged, tower, of(("pick", "w", "w", "r", "w"), ins=ins))

    def test_the_first_row_that_has_no_kind_stops(self):
        works = [("up", "d", 0), ("plus", "a", "b"), ("over", "p", "q"), ("up", "a", 4)]
        self.stopped(LINE, 0, ("up",), *works[:3])
        self.stopped(LINE, 2, ("up",), ("worth", 1, (1, 2)), ("plus", "a", "p"), ("up", "q", 0), ("up", "r", 3))

    def test_by_hand_in_other_towers(self):
        self.told(("kinds", (2, 1, 1)), kinds_judged, FALLING, of(("plus", "c", "c"), ("up", "c", 1),
                                                                  ("less", "q", "c")))
        self.told(("kinds", (1, 2, 3)), kinds_judged, ROUNDS, of(("over", "a", "b"), ("plus", "c", "p"),
                                                                 ("less", "d", "q")))


class Refusals(ProgramCase):
    def test_towers_and_programs(self):
        self.refuses_towers_ahead(kinds_judged)
        self.refuses_towers_ahead(kind_of, 0)
        self.refuses_towers_ahead(kind_of, None)
        self.refuses_programs(kinds_judged, LINE, ())
        self.refuses_programs(kind_of, LINE, (0,), (None,), (-1,))
        self.refused(BadTower, kinds_judged, None, None)

    def test_programs_of_another_tower(self):
        self.refused_with(BadProgram, {"row": 1}, kinds_judged, APART, ((("a", 0), ("b", 1)), (
            ("c", ("plus", "a", "b")), ("d", ("worth", 3, ((0, 1), (1, 1)))))))
        self.refused_with(BadProgram, {"row": -1}, kind_of, (LINE[0][:1], ()), PLAIN, None)

    def test_no_places(self):
        stopped = of(("up", "d", 0), ("plus", "a", "a"))
        for program, many in ((PLAIN, 2), (stopped, 2)):
            for place in THINGS + [-1, 2, 3, -2, 10 ** 60]:
                if not whole(place) or not 0 <= place < many:
                    self.refused(BadNumber, kind_of, LINE, program, place)
        self.told(None, kind_of, LINE, stopped, 0)
        self.told(None, kind_of, LINE, stopped, 1)
