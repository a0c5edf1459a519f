"""[62] RUNS of PROGRAMS: towerwise.runs."""

from random import Random

from tests.mixedcase import BOUND, COARSE, TO_GREAT
from tests.programcase import PLAIN, ProgramCase, drawn_worths, judged_found, run_found, some_programs
from tests.test_judged import of
from tests.test_judgepaper import STOPPED
from tests.test_worths import is_good
from tests.things import THINGS, whole
from tests.towercase import A3, EIGHT, LINE, OWN_FOUR, RESTS, ROUNDS, S0, SHARE, SPLIT, WHOLE, steps
from towerwise.errors import BadNumber, BadWorth, ByNought, Lacking, TooGreat
from towerwise.judged import kinds_judged
from towerwise.programs import names_used
from towerwise.runs import run_of, run_row

NOUGHT, ONE, HALF = (0, 1), (1, 1), (1, 2)
WORTHS = (4, HALF, (NOUGHT, ONE), (ONE, ONE))


class Runs(ProgramCase):
    def runs(self, wanted, tower, program, worths):
        """It runs so, the whole and each row."""
        self.told(wanted, run_of, tower, program, worths)
        for place, number in enumerate(wanted):
            self.told(number, run_row, tower, program, worths, place)

    def test_all(self):
        draw, ended = Random(31), 0
        for tower, program in some_programs(32, 10):
            worths = drawn_worths(draw, tower, program)
            found = run_found(tower, program, worths)
            if found and type(found[-1]) is type:
                self.refused(found[-1], run_of, tower, program, worths)
                ended += 1
            else:
                self.runs(found, tower, program, worths)
                self.assertEqual(tuple(number for number, _ in found), kinds_judged(tower, program)[1])
        self.assertGreater(ended, 10)

    def test_rows_alone(self):
        draw = Random(33)
        for tower, program in some_programs(34, 6):
            worths = drawn_worths(draw, tower, program)
            for place in range(len(program[1])):
                used = names_used(program, place)
                ahead = tuple(row for row in program[1][:place] if row[0] in used)
                kept = (program[0], ahead + program[1][place:place + 1])
                found = run_found(tower, kept, worths)
                if type(found[-1]) is type:
                    self.refused(found[-1], run_row, tower, program, worths, place)
                else:
                    self.told(found[-1], run_row, tower, program, worths, place)

    def test_each_work(self):
        program = of(("worth", 2, (HALF, ONE)), ("plus", "a", "b"), ("over", "a", "a"), ("less", "d", "p"),
                     ("up", "a", 2), ("times", "c", "c"), ("up", "b", 1))
        self.runs([(2, (HALF, ONE)), (1, (9, 2)), (1, ONE), (3, ((-23, 25), (-91, 100))), (2, ((4, 1), NOUGHT)),
                   (2, ((2, 1), NOUGHT)), (1, HALF)], LINE, program, WORTHS)

    def test_picks(self):
        program = (PLAIN[0], (("c", ("pick", "a", "b", "a", "b")), ("d", ("pick", "a", "b", "b", "a"))))
        for one, other, below in ((1, (3, 2), True), (1, HALF, False), (1, ONE, False), (-1, (-3, 2), False),
                                  (-2, (-3, 2), True)):
            third, fourth = (1, (one, 1)), (1, other)
            self.runs([third, fourth] if below else [fourth, third], LINE, program, (one, other))

    def test_a_pick_of_what_nobody_can_tell_is_the_fourth(self):
        program = ((("a", 0), ("b", 3)), (("c", ("pick", "a", "b", "a", "b")),))
        # Whole numbers come to three figures by one figure, so nobody can tell them from others near them.
        self.runs([(3, (1, 2))], COARSE, program, (101, (1, 2)))
        self.runs([(3, (11, 1))], COARSE, program, (101, (11, 1)))
        self.runs([(3, (1, 2))], COARSE, program, (101, (2, 2)))

    def test_sure_bounds_picked(self):
        program = ((("a", 3), ("b", 3)), (("c", ("pick", "a", "b", "a", "b")),))
        low, high, within = (NOUGHT, ONE), ((2, 1), (3, 1)), (HALF, (5, 2))
        for one, other, wanted in ((low, high, low), (high, low, low), (low, within, within), (within, high, high),
                                   (low, low, low)):
            self.runs([(3, wanted)], LINE, program, (one, other))

    def test_a_picked_number_goes_up_to_the_picks_kind(self):
        program = of(("pick", "a", "b", "a", "c"), ("pick", "b", "a", "a", "c"))
        self.runs([(2, WORTHS[2]), (2, ((4, 1), NOUGHT))], LINE, program, WORTHS)
        program = of(("pick", "a", "a", "d", "b"))
        self.runs([(3, (HALF, HALF))], LINE, program, WORTHS)

    def test_first_ways(self):
        program = ((("a", 0), ("b", 3)), (("c", ("plus", "a", "b")), ("d", ("up", "a", 3)),
                                          ("e", ("pick", "a", "a", "b", "a"))))
        self.runs([(3, (11, 2)), (3, (11, 2)), (3, (11, 2))], ROUNDS, program, (1045, (0, 0)))

    def test_finite_kinds(self):
        program = of(("plus", "a", "b"), ("times", "p", "c"), ("over", "q", "q"), ("up", "b", 5),
                     ("pick", "a", "a", "b", "d"))
        self.runs([(1, 6), (2, 0)], RESTS, (program[0], program[1][:2]), (7, 11, 4, 3))
        self.refused(ByNought, run_of, RESTS, program, (7, 11, 4, 3))
        self.told((5, 0), run_row, RESTS, program, (7, 11, 4, 3), 3)
        self.told((3, 3), run_row, RESTS, program, (7, 11, 4, 3), 4)

    def test_own_kinds(self):
        program = ((("r", 0), ("o", 1)), (("a", ("up", "r", 1)), ("b", ("plus", "a", "o")), ("c", ("up", "b", 3)),
                                          ("d", ("over", "c", "c"))))
        self.runs([(1, 1), (1, 0), (3, 0)], SPLIT, (program[0], program[1][:3]), (5, 1))
        self.runs([(1, 1), (1, 1), (3, 1), (3, 1)], SPLIT, program, (5, 0))
        self.refused(ByNought, run_of, SPLIT, program, (5, 1))
        self.assertEqual(SPLIT[0][3], OWN_FOUR)

    def test_without_ins(self):
        self.runs([(0, 5), (0, 25)], LINE, ((), (("a", ("worth", 0, 5)), ("b", ("times", "a", "a")))), ())

    def test_by_nought(self):
        program = of(("over", "a", "a"), ("plus", "a", "b"), ("less", "a", "a"), ("over", "b", "r"))
        self.refused(ByNought, run_of, LINE, program, WORTHS)
        self.refused(ByNought, run_of, LINE, program, (0,) + WORTHS[1:])
        self.refused(ByNought, run_row, LINE, program, (0,) + WORTHS[1:], 0)
        self.told((1, HALF), run_row, LINE, program, (0,) + WORTHS[1:], 1)
        self.told((0, 0), run_row, LINE, program, WORTHS, 2)
        self.refused(ByNought, run_row, LINE, program, WORTHS, 3)

    def test_too_great(self):
        great = (BOUND,) + WORTHS[1:]
        program = of(("plus", "a", "a"), ("plus", "b", "b"), ("up", "a", 1), ("times", "r", "r"))
        self.refused(TooGreat, run_of, LINE, program, great)
        self.refused(TooGreat, run_row, LINE, program, great, 0)
        self.told((1, ONE), run_row, LINE, program, great, 1)
        self.told((1, (BOUND, 1)), run_row, LINE, program, great, 2)
        self.refused(TooGreat, run_row, LINE, program, great, 3)
        self.refused(TooGreat, run_row, LINE, of(("up", "a", 1)), (BOUND + 1,) + WORTHS[1:], 0)
        self.refused(TooGreat, run_of, LINE, of(("up", "a", 3)), (BOUND + 1,) + WORTHS[1:])

    def test_the_first_row_that_ends_it_is_told(self):
        great, nought = ("times", "p", "p"), ("over", "a", "q")
        ahead = (("worth", 0, BOUND), ("less", "a", "a"))
        self.refused(TooGreat, run_of, LINE, of(*ahead, great, nought), WORTHS)
        self.refused(ByNought, run_of, LINE, of(*ahead, nought, great), WORTHS)
        self.refused(ByNought, run_row, LINE, of(*ahead, great, nought), WORTHS, 3)
        self.refused(TooGreat, run_row, LINE, of(*ahead, nought, great), WORTHS, 3)
        both = of(*ahead, nought, great, ("pick", "a", "a", "r", "s"))
        self.refused(ByNought, run_row, LINE, both, WORTHS, 4)

    def test_all_names_of_a_pick_are_done(self):
        for names in ("sabb", "asbb", "absb", "abbs"):
            program = of(("worth", 0, 0), ("plus", "p", "p"), ("over", "a", "q"), ("up", "r", 1), ("pick", *names))
            self.refused(ByNought, run_row, LINE, program, WORTHS, 4)
            self.refused(ByNought, run_of, LINE, program, WORTHS)
        self.told((1, HALF), run_row, LINE, of(("over", "a", "a"), ("pick", "a", "b", "a", "b")), (5,) + WORTHS[1:], 1)

    def test_too_great_in_a_pick(self):
        tower = ((WHOLE, SHARE, A3, S0), steps((0, 1), (0, 2), (1, 3), (2, 3)))
        ins, great = (("a", 0), ("b", 1), ("c", 2)), 2 * BOUND
        # Held together, the great one goes up too great; picked, just where it is the one that goes up.
        self.refused(TooGreat, run_of, tower, of(("pick", "a", "b", "b", "b"), ins=ins), (great, ONE, (1, 0)))
        self.refused(TooGreat, run_of, tower, of(("pick", "c", "c", "b", "a"), ins=ins), (great, ONE, (1, 0)))
        self.told([(1, ONE)], run_of, tower, of(("pick", "a", "a", "a", "b"), ins=ins), (great, ONE, (1, 0)))
        self.told([(2, (2, 300))], run_of, tower, of(("pick", "a", "c", "a", "c"), ins=ins), (great, ONE, (3, 300)))
        self.refused(TooGreat, run_of, tower, of(("pick", "a", "c", "b", "a"), ins=ins), (great, ONE, (1, 300)))

    def test_what_came_may_be_handed_in_again(self):
        number, program = BOUND, ((("a", 0), ("b", 1)), (("c", ("over", "a", "b")), ("d", ("worth", 1, (1, BOUND)))))
        run = run_of(LINE, program, (number, (3, 1)))
        self.assertEqual(run, [(1, (BOUND, 3)), (1, (1, BOUND))])
        again = (program[0], (("c", ("worth",) + run[0]), ("d", ("times", "c", "b"))))
        self.told([(1, (BOUND, 3)), (1, ONE)], run_of, LINE, again, (0, (3, BOUND)))

    def test_a_told_list_changed(self):
        first = run_of(LINE, PLAIN, (1, HALF))
        first.clear()
        self.told([(1, (3, 2)), (3, (NOUGHT, ONE))], run_of, LINE, PLAIN, (1, HALF))


class Refusals(ProgramCase):
    def test_towers_and_programs(self):
        self.refuses_towers_ahead(run_of, (1, HALF))
        self.refuses_towers_ahead(run_of, None)
        self.refuses_towers_ahead(run_row, None, None)
        self.refuses_programs(run_of, LINE, ((1, HALF),), (None,))
        self.refuses_programs(run_row, LINE, ((1, HALF), 0), (None, None))

    def test_stopped_ones(self):
        for tower, program in some_programs(35, 8, stops=True) + [(LINE, STOPPED)]:
            if judged_found(tower, program)[0] == "stopped":
                worths = drawn_worths(Random(1), tower, program)
                for handed in (worths, None, (), [1]):
                    self.refused(Lacking, run_of, tower, program, handed)
                    for place in (0, 1, -1, None, 99):
                        self.refused(Lacking, run_row, tower, program, handed, place)

    def test_no_places(self):
        for place in THINGS + [-1, 2, 3, -2, 10 ** 60]:
            if not whole(place) or not 0 <= place < 2:
                self.refused(BadNumber, run_row, LINE, PLAIN, (1, HALF), place)
                self.refused(BadNumber, run_row, LINE, PLAIN, None, place)

    def bad_worths(self, thing):
        """It is refused by both."""
        self.refused(BadWorth, run_of, LINE, PLAIN, thing)
        for place in (0, 1):
            self.refused(BadWorth, run_row, LINE, PLAIN, thing, place)

    def test_worths(self):
        for thing in ((), (1,), (1, HALF, 1), [1, HALF], (HALF, 1), (True, HALF), (1, (2, 4)), (None, HALF), (1, None),
                      ((0, 1), (1, HALF)), {"a": 1, "b": HALF}, None, 5, "ab"):
            self.bad_worths(thing)
        for thing in THINGS:
            if not is_good(WHOLE, thing):
                self.bad_worths((thing, HALF))
            if not is_good(SHARE, thing):
                self.bad_worths((1, thing))
            if type(thing) is not tuple:
                self.bad_worths(thing)

    def test_worths_of_each_of_ins(self):
        for tower in (EIGHT, RESTS):
            ins = tuple((name, number) for name, number in zip("abcdef", range(6)))
            program = (ins, (("g", ("worth", 0, 1)),))
            good = {"whole": 5, "share": HALF, "about": (5, 0), "root": (HALF, ONE), "rest": 1, "own": 1}
            worths = tuple(good[tower[0][number][0]] for number in range(6))
            self.told([(0, 1)], run_of, tower, program, worths)
            for place in range(6):
                for thing in THINGS:
                    if not is_good(tower[0][place], thing):
                        self.refused(BadWorth, run_of, tower, program, worths[:place] + (thing,) + worths[place + 1:])

    def test_wrong_worths_ahead_of_what_ends_it(self):
        program = (PLAIN[0], (("c", ("over", "a", "d")),))
        program = (PLAIN[0] + (("d", 0),), program[1])
        self.refused(ByNought, run_of, LINE, program, (1, HALF, 0))
        self.refused(BadWorth, run_of, LINE, program, (1, 1, 0))
        self.refused(TooGreat, run_of, LINE, program, (TO_GREAT["whole"], HALF, 1))
        self.refused(BadWorth, run_of, LINE, program, (TO_GREAT["whole"], HALF, None))
