"""[0] Nothing handed in is changed or kept; what is told is the asker's own and the same each time."""

from tests.things import Case, OWN_SIX, THINGS, copied, same
from tests.towercase import ALONE, EIGHT, FALLING, LINE, OWN_FOUR, RESTS, ROUNDS
from towerwise.about import about_deed, about_order
from towerwise.above import all_ways, candidates_of, first_way, kinds_above, least_above, least_kind
from towerwise.backs import back_of, is_prime, parted_noughts, units_of
from towerwise.cardcheck import check_even, even_paper
from towerwise.cards import by_card, card_behind, card_of, card_of_step
from towerwise.deeds import deed_done, has_deed
from towerwise.differ import differ_at, uneven_ways
from towerwise.errors import TowerError
from towerwise.exact import exact_deed, exact_order
from towerwise.figures import is_tie, rounded, value_of
from towerwise.fractions import (difference_of, fraction, is_fraction, is_great, is_less, product_of, quotient_of,
                                 sum_of)
from towerwise.going import gone_up, is_way, up_step
from towerwise.judgecheck import check_judged
from towerwise.judged import kind_of, kinds_judged
from towerwise.judgepaper import judge_paper
from towerwise.kinds import is_finite, is_kind, many_worths, need_kind
from towerwise.likeness import bounds_at, keeps_worths, likeness_of
from towerwise.mixed import all_answers, is_mixed, mixed_deed, need_mixed
from towerwise.order import in_order, order_of
from towerwise.own import is_even, is_group, nought_of, one_of, own_deed
from towerwise.polys import poly_of
from towerwise.programs import is_program, names_used, need_program
from towerwise.reading import read_kind, read_program, read_tower, read_worth
from towerwise.roots import root_deed, root_norm, root_order, root_sign, turned_root
from towerwise.runs import run_of, run_row
from towerwise.sure import hull_of, is_within, root_bounds, sure_deed, sure_like, sure_order
from towerwise.terms import is_equation, is_term, lacks_term, names_in, need_term, number_at, term_at
from towerwise.towers import is_tower, need_tower, steps_from, with_kind, with_step
from towerwise.twins import going_back, plainest_twin, twins_of
from towerwise.verdicts import reach_of, verdict_of
from towerwise.words import is_among, is_name, is_whole, number_in, words_of
from towerwise.worths import is_worth, need_worth, place_of, worth_at
from towerwise.writing import kind_text, program_text, tower_text, worth_text

WHOLE, SHARE, ROOT, REST = ("whole",), ("share",), ("root", 5), ("rest", 7)
ABOUT, SURE = ("about", 2), ("sure", 3)
NOUGHT, ONE, HALF = (0, 1), (1, 1), (1, 2)

SMALL = ((WHOLE, REST, SHARE), ((0, 1, None), (0, 2, None)))
SMALL_PAPER = ((0, 1, ("round", (0, 1, 2, 3, 4, 5, 6))), (0, 2, ("figures", ())))

PROGRAM = ((("a", 0), ("b", 1)), (("c", ("plus", "a", "b")), ("d", ("up", "b", 3)),
                                  ("e", ("pick", "a", "b", "a", "c"))))
LEDS = ((2, (1, 2)), (3, (1, 2, 3)))
PAPER = ((1, (0, 1), (1,), LEDS), (3, (1, 2, 3)), (1, (0, 1), (1,), LEDS, (1, (0, 1), (1,), LEDS)))
TERM = ("plus", ("name", "b"), ("times", ("name", "a"), ("number", -2)))

LINE_TEXT = "kind whole\nkind share\nkind root 2\nkind sure 2\nstep 0 1\nstep 1 2\nstep 2 3"
PROGRAM_TEXT = "in a 0\nin b 1\nrow c plus a b\nrow d up b 3\nrow e pick a b a c"

# A good call of each function, and what it tells.
GOOD = [
    (is_whole, (7,), True), (is_among, (7, 0, 9), True), (is_name, ("abc",), True), (number_in, ("-12",), -12),
    (words_of, ("a b c",), ["a", "b", "c"]), (is_fraction, ((1, 2),), True), (fraction, (4, -6), (-2, 3)),
    (sum_of, (HALF, HALF), ONE), (product_of, (HALF, HALF), (1, 4)), (difference_of, (HALF, ONE), (-1, 2)),
    (quotient_of, (HALF, (1, 3)), (3, 2)), (is_less, (HALF, ONE), True), (is_great, (HALF,), False),
    (is_kind, (OWN_SIX,), True), (need_kind, (OWN_SIX,), None), (is_finite, (REST,), True),
    (many_worths, (OWN_SIX,), 6), (is_worth, (SURE, (HALF, ONE)), True), (need_worth, (ABOUT, (25, 3)), None),
    (worth_at, (SHARE, 5), (1, 2)), (place_of, (SHARE, (1, 2)), 5), (worth_at, (ROOT, 2), (ONE, NOUGHT)),
    (exact_deed, (WHOLE, "less", 3, 5), -2), (exact_deed, (REST, "over", 1, 3), 5),
    (exact_order, (SHARE, HALF, ONE), -1),
    (root_deed, (ROOT, "times", (ONE, ONE), (ONE, ONE)), ((6, 1), (2, 1))), (root_sign, (ROOT, (ONE, (-1, 1))), -1),
    (root_order, (ROOT, (ONE, NOUGHT), (NOUGHT, ONE)), -1), (turned_root, (ROOT, (ONE, HALF)), (ONE, (-1, 2))),
    (root_norm, (ROOT, (ONE, ONE)), (-4, 1)), (is_prime, (13,), True), (back_of, (REST, 3), 5),
    (units_of, (REST,), (1, 2, 3, 4, 5, 6)), (parted_noughts, (("rest", 6),), [(2, 3), (3, 4)]),
    (rounded, (2, (1, 8)), (13, -2)), (value_of, ((13, -2),), (13, 100)), (is_tie, (2, (1, 8)), True),
    (about_deed, (ABOUT, "times", (25, 0), (5, 0)), (13, 1)), (about_order, (ABOUT, (1, 1), (9, 0)), 1),
    (sure_deed, (SURE, "less", (HALF, ONE), (HALF, ONE)), ((-1, 2), (1, 2))),
    (sure_like, (SURE, (HALF, ONE), (HALF, ONE)), "perhaps"), (sure_order, (SURE, (HALF, HALF), (ONE, ONE)), "below"),
    (root_bounds, (2, 1), ((7, 5), (3, 2))), (hull_of, (SURE, [(ONE, ONE), (HALF, HALF)]), (HALF, ONE)),
    (is_within, (SURE, (HALF, HALF), (HALF, ONE)), True),
    (nought_of, (OWN_FOUR,), 0), (one_of, (OWN_FOUR,), 1), (own_deed, (OWN_FOUR, "over", 1, 2), 3),
    (is_group, (OWN_SIX,), True), (is_even, (OWN_SIX,), True), (has_deed, (OWN_SIX, "over"), False),
    (deed_done, (ROOT, "less", (ONE, ONE), (ONE, HALF)), (NOUGHT, HALF)), (is_tower, (EIGHT,), True),
    (need_tower, (RESTS,), None), (steps_from, (ROUNDS, 2), [3, 5]),
    (with_kind, ((RESTS[0][:1], ()), REST), ((WHOLE, REST), ())),
    (with_step, ((LINE[0], ()), (0, 1, None)), (LINE[0], ((0, 1, None),))), (is_way, (LINE, (0, 1, 2, 3)), True),
    (up_step, (RESTS, 4, 5, 0), 1), (gone_up, (ROUNDS, (0, 2, 3, 4), 1495), (2, 3)),
    (kinds_above, (FALLING, 3), [0, 1, 3]), (all_ways, (ROUNDS, 0, 3), [(0, 1, 2, 3), (0, 1, 3), (0, 2, 3)]),
    (first_way, (FALLING, 5, 0), (5, 4, 2, 1, 0)), (candidates_of, (LINE, "over", 0, 2), [2, 3]),
    (least_kind, (RESTS, "over", 1, 3), 4), (least_above, (LINE, 1, 2), 2),
    (card_of, (ROUNDS, (2, 3, 4)), ("figures", (3, 2, 1))), (card_of_step, (RESTS, 2, 4), ("row", (0, 1, 0, 1, 0, 1))),
    (card_behind, (("round", (0, 1, 2, 3)), ("row", (1, 0, 1, 0))), ("round", (1, 0))),
    (by_card, (("round", (1, 0)), 5), 0), (differ_at, (ROUNDS, (0, 2, 3), (0, 1, 3)), 1045),
    (uneven_ways, (ROUNDS,), ((0, 1, 2, 3), (0, 1, 3), 1045)), (even_paper, (SMALL,), SMALL_PAPER),
    (check_even, (SMALL, SMALL_PAPER), None), (is_mixed, (LINE, (1, HALF)), True),
    (need_mixed, (LINE, (1, HALF)), None),
    (mixed_deed, (LINE, "over", (0, 1), (0, 2)), (1, HALF)),
    (all_answers, (ROUNDS, "plus", (0, 1045), (3, (0, 0))),
     [(("worth", (11, 2)), (0, 1, 2, 3), (3,)), (("worth", (1, 3)), (0, 1, 3), (3,))]),
    (keeps_worths, (LINE, (2, 3)), True), (bounds_at, (LINE, (2, 3), (NOUGHT, ONE)), ((141, 100), (71, 50))),
    (likeness_of, (LINE, (0, 1), (1, ONE)), "yes"), (order_of, (LINE, (1, HALF), (0, 1)), "below"),
    (in_order, (LINE, [(0, 1), (1, HALF)]), [(1, HALF), (0, 1)]), (going_back, (LINE, (0, 1), (5, 1)), 5),
    (twins_of, (LINE, (1, HALF)), [(1, HALF), (2, (HALF, NOUGHT)), (3, (HALF, HALF))]),
    (plainest_twin, (LINE, (3, (HALF, HALF))), (1, HALF)), (twins_of, (ALONE, (0, 5)), [(0, 5)]),
    (is_program, (LINE, PROGRAM), True), (need_program, (LINE, PROGRAM), None),
    (names_used, (PROGRAM, 2), ["a", "b", "c"]), (kinds_judged, (LINE, PROGRAM), ("kinds", (1, 3, 1))),
    (kind_of, (LINE, PROGRAM, 1), 3), (judge_paper, (LINE, PROGRAM), PAPER),
    (check_judged, (LINE, PROGRAM, (1, 3, 1), PAPER), None),
    (run_of, (LINE, PROGRAM, (2, HALF)), [(1, (5, 2)), (3, (HALF, HALF)), (1, (5, 2))]),
    (run_row, (LINE, PROGRAM, (0, HALF), 2), (1, NOUGHT)), (is_term, (TERM,), True), (need_term, (TERM,), None),
    (is_equation, ((TERM, TERM),), True), (names_in, (TERM,), ["a", "b"]), (number_at, (OWN_FOUR, -3), 1),
    (lacks_term, (OWN_FOUR, TERM), False), (term_at, (("share",), TERM, {"a": HALF, "b": ONE, "d": None}), NOUGHT),
    (poly_of, (TERM,), (((("a", 1),), -2), ((("b", 1),), 1))),
    (verdict_of, (WHOLE, (TERM, ("name", "b"))), ("broken", (("a", 1), ("b", 0)))),
    (reach_of, (LINE, (TERM, TERM)), ("all", ("holds", "holds", "holds", "tried"))),
    (kind_text, (OWN_FOUR,), "own 0123/1032/2301/3210 0000/0123/0231/0312"), (worth_text, (SURE, (HALF, ONE)), "1/2 1"),
    (tower_text, (LINE,), LINE_TEXT), (program_text, (LINE, PROGRAM), PROGRAM_TEXT), (read_kind, ("sure 3",), SURE),
    (read_worth, (ABOUT, "25 -3"), (25, -3)), (read_tower, (LINE_TEXT,), LINE),
    (read_program, (LINE, PROGRAM_TEXT), PROGRAM),
]
# These are promised for good things alone.
UNREFUSING = (sum_of, product_of, difference_of, quotient_of, is_less, is_great, card_behind, by_card, names_used,
              kind_text, worth_text, tower_text, program_text)


class Kept(Case):
    def test_told_twice_it_is_the_same(self):
        for function, handed, wanted in GOOD:
            self.told(wanted, function, *handed)

    def test_told_the_same_behind_refusals(self):
        for function, handed, wanted in GOOD:
            if function not in UNREFUSING:
                for thing in THINGS:
                    self.asked(function, [thing] * len(handed))
            self.told(wanted, function, *handed)

    def asked(self, function, handed):
        """It tells something or refuses; either way what is handed in stays."""
        before = copied(handed)
        if function is is_among:
            handed, before = handed[:1] + [0, 9], before[:1] + [0, 9]
        try:
            first = function(*handed)
        except TowerError as caught:
            with self.assertRaises(type(caught)):
                function(*handed)
        else:
            self.assertTrue(same(first, function(*handed)))
        self.assertTrue(same(before, handed))

    def test_one_thing_wrong_at_each_place(self):
        for function, handed, wanted in GOOD:
            if function in UNREFUSING or function is is_among:
                continue
            for place in range(len(handed)):
                for thing in THINGS:
                    self.asked(function, list(handed[:place]) + [thing] + list(handed[place + 1:]))
            self.told(wanted, function, *handed)

    def test_told_lists_changed_and_asked_again(self):
        for function, handed, wanted in GOOD:
            if type(wanted) is list:
                first = function(*handed)
                first.reverse()
                first.append("more")
                self.told(wanted, function, *handed)
                second, third = function(*handed), function(*handed)
                self.assertIsNot(second, third)

    def test_lists_handed_in_are_kept_nowhere(self):
        handed = [(ONE, ONE)]
        self.told((ONE, ONE), hull_of, SURE, handed)
        handed[0] = (HALF, HALF)
        self.told((HALF, HALF), hull_of, SURE, handed)
        self.assertEqual(handed, [(HALF, HALF)])
        numbers = [(0, 1), (1, HALF)]
        self.told([(1, HALF), (0, 1)], in_order, LINE, numbers)
        numbers[1] = (0, 2)
        self.told([(0, 1), (0, 2)], in_order, LINE, numbers)
        self.assertEqual(numbers, [(0, 1), (0, 2)])
