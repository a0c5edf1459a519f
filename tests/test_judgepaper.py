"""[63] PAPERS of PROGRAMS and checking them: towerwise.judgepaper, towerwise.judgecheck."""

from random import Random
from time import perf_counter

from tests.programcase import (NAMES, PLAIN, ProgramCase, drawn_program, judged_found, paper_found, some_programs)
from tests.test_above import CROSS
from tests.test_judged import INS, of
from tests.test_towerlook import T2
from tests.things import OWN_SIX, OWN_TWO, THINGS, same
from tests.towercase import APART, EIGHT, FORK, LINE, OWN_THREE, RESTS, ROUNDS, ways_found
from towerwise.errors import BadPaper, BadProgram, BadTower, Lacking
from towerwise.judgecheck import check_judged
from towerwise.judged import kinds_judged
from towerwise.judgepaper import judge_paper
from towerwise.runs import run_of

STOPPED = of(("plus", "a", "a"), ("up", "d", 0), ("plus", "a", "b"))


def places_in(thing, ahead=()):
    """List the places of all things within a tuple, and of itself."""
    found = [ahead]
    if type(thing) is tuple:
        for place, part in enumerate(thing):
            found += places_in(part, ahead + (place,))
    return found


def put(thing, place, new):
    """Put another thing in one place within a tuple."""
    if place == ():
        return new
    first = place[0]
    return thing[:first] + (put(thing[first], place[1:], new),) + thing[first + 1:]


def at(thing, place):
    """Tell what stands in one place within a tuple."""
    for part in place:
        thing = thing[part]
    return thing


def spoilt(part):
    """List other things in the place of a part."""
    wrong = [None, True, False, -1, 8, "a", (), [], (None,), (part,), part + part if type(part) is tuple else str(part)]
    if type(part) is tuple:
        wrong += [list(part), part[:-1], part[1:], part[::-1], part + (0,)]
    else:
        wrong += [part + 1, part - 1, part == 1, (part, part)]
    return [thing for thing in wrong if not same(thing, part)]


class JudgePaper(ProgramCase):
    def test_all(self):
        for tower, program in some_programs(21, 6):
            self.told(paper_found(tower, program), judge_paper, tower, program)

    def test_each_work(self):
        program = of(("worth", 2, ((0, 1), (1, 1))), ("plus", "a", "b"), ("over", "a", "a"), ("up", "a", 3),
                     ("up", "b", 1), ("pick", "a", "b", "c", "a"))
        leds = ((2, (1, 2)), (3, (1, 2, 3)))
        self.told(((2,), (1, (0, 1), (1,), leds), (1, (0, 1), (0, 1), leds), (3, (0, 1, 2, 3)), (1, (1,)),
                   (2, (2,), (0, 1, 2), ((3, (2, 3)),), (1, (0, 1), (1,), leds))), judge_paper, LINE, program)

    def test_first_ways_though_there_are_others(self):
        ins = (("a", 0), ("b", 3))
        program = (ins, (("c", ("plus", "a", "b")), ("d", ("up", "a", 5))))
        self.told(((3, (0, 1, 2, 3), (3,), ((4, (3, 4)), (5, (3, 4, 5)))), (5, (0, 1, 2, 3, 4, 5))), judge_paper,
                  ROUNDS, program)

    def test_candidates_alone_are_led_to(self):
        program = ((("a", 1), ("b", 3)), (("c", ("over", "a", "b")), ("d", ("plus", "a", "b")),
                                          ("e", ("pick", "f", "f", "a", "b"))))
        program = (program[0] + (("f", 0),), program[1])
        leds = ((4, (3, 4)), (5, (3, 4, 5)))
        self.told(((4, (1, 2, 4), (3, 4), ((5, (4, 5)),)), (3, (1, 3), (3,), leds),
                   (3, (1, 3), (3,), leds, (0, (0,), (0,), (
                       (1, (0, 1)), (2, (0, 1, 2)), (3, (0, 1, 3)), (4, (0, 1, 2, 4)), (5, (0, 1, 2, 4, 5)))))),
                  judge_paper, RESTS, program)

    def test_stopped_ones(self):
        for tower, program in some_programs(22, 12, stops=True):
            if judged_found(tower, program)[0] == "stopped":
                self.refused(Lacking, judge_paper, tower, program)
        self.refused(Lacking, judge_paper, LINE, STOPPED)
        self.refused(Lacking, judge_paper, CROSS, of(("plus", "a", "b")))

    def test_refusals(self):
        self.refuses_towers_ahead(judge_paper)
        self.refuses_programs(judge_paper, LINE, ())
        self.refused(BadTower, judge_paper, None, STOPPED)
        self.refused_with(BadProgram, {"row": 3}, judge_paper, LINE, (INS, STOPPED[1] + (None,)))


class CheckJudged(ProgramCase):
    def lets_by(self, tower, program, kinds, paper):
        """They are let by."""
        self.told(None, check_judged, tower, program, kinds, paper)

    def bad(self, place, tower, program, kinds, paper):
        """They are refused with this place."""
        self.refused_with(BadPaper, {"place": place}, check_judged, tower, program, kinds, paper)

    def test_papers_told_are_let_by(self):
        for tower, program in some_programs(23, 6):
            self.lets_by(tower, program, kinds_judged(tower, program)[1], judge_paper(tower, program))

    def test_one_thing_otherwise_at_each_place(self):
        chosen = [(tower, program) for tower, program in some_programs(24, 3, 4) if tower != EIGHT]
        for tower, program in chosen + [(LINE, PLAIN)]:
            kinds, paper = kinds_judged(tower, program)[1], judge_paper(tower, program)
            for place in places_in(paper)[1:]:
                for thing in spoilt(at(paper, place)):
                    if not self.is_another_way(tower, paper, place, thing):
                        self.bad(place[:1], tower, program, kinds, put(paper, place, thing))

    def is_another_way(self, tower, paper, place, thing):
        """Tell whether a way of LEDS becomes just another way of the same ends with a thing in this place."""
        if len(place) >= 4 and place[1] == 3 and place[3] == 1:
            place, behind = place[:4], place[4:]
        elif len(place) >= 5 and place[1:3] == (4, 3) and place[4] == 1:
            place, behind = place[:5], place[5:]
        else:
            return False
        way, new = at(paper, place), put(at(paper, place), behind, thing)
        return any(same(new, other) for other in ways_found(tower, way[0], way[-1]))

    def test_kinds_otherwise(self):
        for tower, program in some_programs(25, 3):
            kinds, paper = kinds_judged(tower, program)[1], judge_paper(tower, program)
            for place, number in enumerate(kinds):
                for other in range(len(tower[0])):
                    if other != number:
                        self.bad((place,), tower, program, put(kinds, (place,), other), paper)
                for thing in (None, True, False, -1, len(tower[0]), "0", (number,), [number], 10 ** 60):
                    self.bad((), tower, program, put(kinds, (place,), thing), paper)
            for thing in (kinds[1:], kinds + kinds[:1], list(kinds), (), None, (kinds,), {}, kinds * 2):
                self.bad((), tower, program, thing, paper)
                self.bad((), tower, program, thing, None)

    def test_papers_that_are_no_tuple_of_as_many(self):
        for tower, program in some_programs(26, 2):
            kinds, paper = kinds_judged(tower, program)[1], judge_paper(tower, program)
            for thing in (paper[1:], paper + paper[:1], list(paper), (), None, (paper, paper) * 5, {}, "abc"):
                self.bad((), tower, program, kinds, thing)
        kinds, paper = kinds_judged(LINE, PLAIN)[1], judge_paper(LINE, PLAIN)
        for thing in THINGS:
            if type(thing) is not tuple or len(thing) != 2:
                self.bad((), LINE, PLAIN, kinds, thing)
                self.bad((), LINE, PLAIN, thing, paper)
            self.bad((0,), LINE, PLAIN, kinds, (thing, paper[1]))
            self.bad((1,), LINE, PLAIN, kinds, (paper[0], thing))
            self.bad((0,), LINE, PLAIN, kinds, (thing, thing))

    def test_any_way_in_leds_is_let_by(self):
        many = 0
        for tower, program in some_programs(27, 4):
            kinds, paper = kinds_judged(tower, program)[1], judge_paper(tower, program)
            for place in places_in(paper):
                way = at(paper, place)
                if place[-1:] == (1,) and len(place) in (4, 5) and place[-3] == 3 and type(way) is tuple:
                    for other in ways_found(tower, way[0], way[-1]):
                        self.lets_by(tower, program, kinds, put(paper, place, other))
                        many += other != way
                    for wrong in ((), way[:-1] + (way[0],), way[1:], way + way[-1:], way[:-1], list(way), None,
                                  way[:1] * 2 + way[1:]):
                        self.bad(place[:1], tower, program, kinds, put(paper, place, wrong))
        self.assertGreater(many, 100)

    def test_first_ways_alone_elsewhere(self):
        ins = (("a", 0), ("b", 3))
        program = (ins, (("c", ("plus", "a", "b")), ("d", ("up", "a", 3))))
        leds = ((4, (3, 4)), (5, (3, 4, 5)))
        for way in ((0, 1, 3), (0, 2, 3)):
            self.bad((0,), ROUNDS, program, (3, 3), ((3, way, (3,), leds), (3, (0, 1, 2, 3))))
            self.bad((1,), ROUNDS, program, (3, 3), ((3, (0, 1, 2, 3), (3,), leds), (3, way)))
        self.lets_by(ROUNDS, program, (3, 3), ((3, (0, 1, 2, 3), (3,), leds), (3, (0, 1, 2, 3))))

    def test_truths_in_the_place_of_numbers(self):
        program = ((("a", 0), ("b", 1)), (("c", ("plus", "b", "a")), ("d", ("up", "a", 1)),
                                          ("e", ("worth", 1, (1, 2)))))
        leds = ((2, (1, 2)), (3, (1, 2, 3)))
        paper = ((1, (1,), (0, 1), leds), (1, (0, 1)), (1,))
        self.lets_by(LINE, program, (1, 1, 1), paper)
        for place in places_in(paper):
            if at(paper, place) in (0, 1):
                self.bad(place[:1], LINE, program, (1, 1, 1), put(paper, place, at(paper, place) == 1))
        self.bad((), LINE, program, (1, True, 1), paper)

    def test_leds_rising_each_other_candidate_just_once(self):
        paper = judge_paper(ROUNDS, ((("a", 2),), (("b", ("plus", "a", "a")),)))
        number, one, other, leds = paper[0]
        program = ((("a", 2),), (("b", ("plus", "a", "a")),))
        self.assertEqual(leds, ((3, (2, 3)), (4, (2, 3, 4)), (5, (2, 3, 4, 5))))
        for wrong in (leds[1:], leds[:2], leds[::-1], leds + leds[:1], leds[:1] + leds, ((2, (2,)),) + leds,
                      leds[:1] + ((3, (2, 3)),) + leds[2:], ((3, (2, 3, 4)),) + leds[1:], ((4, (2, 3)),) + leds[1:],
                      ()):
            self.bad((0,), ROUNDS, program, (2,), ((number, one, other, wrong),))
        self.lets_by(ROUNDS, program, (2,), ((number, one, other, leds[:2] + ((5, (2, 5)),)),))

    def test_a_pick_in_order_and_of_its_kinds(self):
        program = of(("pick", "a", "b", "c", "a"))
        paper = judge_paper(LINE, program)
        self.lets_by(LINE, program, (2,), paper)
        for wrong in (paper[0][:4], paper[0][:4] + (paper[0][:4],), paper[0] + ((),), paper[0][4:] + paper[0][:4],
                      paper[0][4] + (paper[0][:4],), paper[0][:4] + (paper[0][4] + ((),),)):
            self.bad((0,), LINE, program, (2,), (wrong,))

    def test_the_first_wrong_row_is_told(self):
        program = of(*[("up", "a", number) for number in range(4)])
        paper = judge_paper(LINE, program)
        for place in range(4):
            self.bad((place,), LINE, program, (0, 1, 2, 3), paper[:place] + (None,) * (4 - place))
            kinds = (0, 1, 2, 3)[:place] + (1 if place == 0 else 0,) + (0,) * (3 - place)
            self.bad((place,), LINE, program, kinds, paper)
            self.bad((0,), LINE, program, kinds, (None,) + paper[1:])

    def test_nothing_is_let_by_of_a_stopped_program(self):
        for tower, program in some_programs(28, 12, stops=True) + [(LINE, STOPPED), (CROSS, of(("plus", "a", "b")))]:
            found = judged_found(tower, program)
            if found[0] == "stopped":
                ahead = (program[0], program[1][:found[1]])
                paper = judge_paper(tower, ahead) if found[1] else ()
                kinds = kinds_judged(tower, ahead)[1] if found[1] else ()
                for number in range(len(tower[0])):
                    for row in ((number,), (number, (number,)), (number, (number,), (number,), ()), None, ()):
                        left = len(program[1]) - found[1]
                        self.bad((found[1],), tower, program, kinds + (number,) * left, paper + (row,) * left)
                self.bad((), tower, program, kinds, paper)
                if found[1]:
                    self.bad((0,), tower, program, kinds + (0,) * left, (None,) * len(program[1]))

    def test_refusals(self):
        self.refuses_towers_ahead(check_judged, (), ())
        self.refuses_towers_ahead(check_judged, None, None)
        self.refuses_programs(check_judged, LINE, ((), ()), (None, None))
        self.bad((), LINE, PLAIN, None, None)
        self.bad((), LINE, STOPPED, None, None)
        self.bad((), FORK, of(("plus", "a", "a")), (0,), ())


class Time(ProgramCase):
    def test_good_programs_of_thirty_rows_in_towers_of_eight_kinds(self):
        turned = ("own", OWN_SIX[2], OWN_SIX[1])
        owns = ((("rest", 6), ("rest", 12), ("rest", 2), OWN_SIX, turned, OWN_THREE, OWN_TWO, ("whole",)),
                tuple((one, other, (0,) * many) for one, many in ((0, 6), (1, 12), (2, 2)) for other in (3, 4, 5, 6))
                + tuple((one, other, (0,) * many) for one, many in ((3, 6), (4, 6), (5, 3))
                        for other in range(one + 1, 7))
                + ((7, 0, None), (7, 1, None), (7, 2, None), (1, 0, None), (1, 2, None), (0, 2, None)))
        owns = (owns[0], tuple(sorted(owns[1], key=lambda step: step[:2])))
        draw = Random(5)
        for tower in (EIGHT, T2, owns, APART):
            for _ in range(5):
                program = drawn_program(draw, tower, 6, 30)
                start = perf_counter()
                kinds, paper = kinds_judged(tower, program)[1], judge_paper(tower, program)
                check_judged(tower, program, kinds, paper)
                self.assertLess(perf_counter() - start, 0.1)

    def test_longest_names_and_rows_that_hang_on_all(self):
        rows = [(NAMES[place], ("plus", NAMES[place - 1], NAMES[max(0, place - 2)])) for place in range(1, 31)]
        program = (((NAMES[0], 0),), tuple(rows))
        self.told([(0, number) for number in fibonacci(30)], run_of, EIGHT, program, (1,))


def fibonacci(many):
    """List what comes of adding the last two numbers again and again."""
    numbers = [2, 3]
    while len(numbers) < many:
        numbers.append(numbers[-1] + numbers[-2])
    return numbers
