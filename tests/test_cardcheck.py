"""[43] Papers that a tower is even: towerwise.cardcheck."""

from itertools import product

from tests.test_cards import SHORT, card_found
from tests.test_differ import ALL_ROWS, LATE, ROOTS
from tests.things import OWN_SIX, OWN_TWO, THINGS
from tests.towercase import (A1, A2, A3, ALONE, APART, FORK, GOOD_TOWERS, LINE, OWN_FOUR, OWN_THREE, REST, RESTS,
                             ROOT, S0, S2, S6, SHARE, TowerCase, WHOLE, above_found, steps, ways_found)
from towerwise.cardcheck import check_even, even_paper
from towerwise.cards import card_behind
from towerwise.errors import BadPaper, Lacking, TowerError

# Eight kinds, all steps that there may be, and yet even; with figures that never fall.
SURES = ((WHOLE, SHARE, S0, S2, S6, ("sure", 1), ("sure", 3), ("sure", 4)),
         steps(*[(one, other) for one in range(8) for other in range(one + 1, 8)]))
RISING = ((WHOLE, A1, A2, A3, S0), steps((0, 1), (1, 2), (1, 3), (1, 4), (2, 3), (2, 4), (3, 4)))
# Numbers of kinds that fall up the steps: rows go on by rows ahead of them.
DOWN = ((S6, A1, A2, A3, SHARE), steps((1, 0), (2, 1), (3, 2), (4, 3)))
# Each way from rests of six to the last kind is the same.
EVEN_OWNS = ((REST, ("rest", 3), OWN_THREE, OWN_FOUR, ROOT, S2),
             steps((0, 1), (0, 2, (0, 1, 2) * 2), (1, 2, (0, 1, 2)), (1, 3, (3, 0, 1)), (2, 3, (3, 0, 1)), (4, 5)))
# Root and share go to the same sure kinds; all by the same places.
PLACES = ((WHOLE, SHARE, ROOT, S2, S0), steps((0, 1), (0, 2), (1, 2), (2, 3), (3, 4)))
TOWERS = GOOD_TOWERS + [SHORT, ALL_ROWS, LATE, ROOTS, SURES, RISING, DOWN, EVEN_OWNS, PLACES]
EVEN = [LINE, RESTS, FORK, ALONE, APART, SURES, RISING, DOWN, EVEN_OWNS, PLACES]

NO_CARDS = [None, True, 0, "row", (), ("row",), ("row", ()), ("row", (0,) * 13), ("row", (12,)), ("row", (-1,)),
            ("row", (True,)), ("row", (0, False)), ("row", [0]), ["row", (0,)], ("row", (0,), ()), ("row", 0),
            ("row", ("0",)), ("row", ((0,),)), ("round", ()), ("round", (0,) * 13), ("round", (12,)), ("round", (-1,)),
            ("round", None), ("round", (None,)), ("round", [0, 1]), ("places", (7,)), ("places", (-1,)),
            ("places", (0, 1)), ("places", (True,)), ("places", 2), ("places", [2]), ("places", None),
            ("figures", (0,)), ("figures", (4,)), ("figures", (1, 2)), ("figures", (2, 2)), ("figures", (3, 2, 2)),
            ("figures", (True,)), ("figures", (3, 2, 1, 0)), ("figures", [2]), ("figures", 2), ("figures", None),
            ("Row", (0,)), ("", ()), ("rows", (0,)), (None, ()), (0, (0,)), ((), ()), ("worth", (0,)), ({}, ()),
            ([], ()), (("row",), (0,)), b"row", {"row": (0,)}]
CARDS = [("row", (0,)), ("row", (11,) * 12), ("row", (0, 1)), ("row", (0, 1, 0, 1, 0, 1)), ("round", (0,)),
         ("round", (0, 11)), ("round", (5,) * 12), ("places", ()), ("places", (0,)), ("places", (6,)), ("figures", ()),
         ("figures", (1,)), ("figures", (2,)), ("figures", (3,)), ("figures", (2, 1)), ("figures", (3, 1)),
         ("figures", (3, 2)), ("figures", (3, 2, 1))]


def pairs_of(tower):
    """List the pairs (I, J) with J above I but I itself, rising."""
    numbers = range(len(tower[0]))
    return [(one, other) for one in numbers for other in above_found(tower, one) if other != one]


def first_paper(tower):
    """Tell the paper with the CARDS of all first ways."""
    return tuple(pair + (card_found(tower, ways_found(tower, *pair)[0]),) for pair in pairs_of(tower))


def is_even(tower):
    """Tell whether all ways of the same ends have one CARD."""
    return all(len({card_found(tower, way) for way in ways_found(tower, *pair)}) == 1 for pair in pairs_of(tower))


def fits(tower, one, other, card):
    """Tell whether a CARD can be that of two unlike kinds."""
    start, end = tower[0][one], tower[0][other]
    sizes = {number: kind[1] if kind[0] == "rest" else len(kind[1]) for number, kind in enumerate(tower[0])
             if kind[0] in ("rest", "own")}
    if one in sizes or other in sizes:
        good = card[0] == ("row" if one in sizes else "round")
        good = good and all(worth < sizes[other] for worth in card[1])
        return good and (one not in sizes or len(card[1]) == sizes[one])
    if start[0] == "root" and end[0] == "sure":
        return card[0] == "places" and len(card[1]) == 1
    return card[0] == "figures"


def wrong_row(tower, paper):
    """Tell the place of the first row that isn't right, None of a right paper; of cards that fit their ends."""
    told = {row[:2]: row[2] for row in paper}
    for place, (one, other, card) in enumerate(paper):
        for start, middle, _ in tower[1]:
            if start == one and middle == other and card != card_found(tower, (one, other)):
                return place
            if start == one and (middle, other) in told:
                if card != card_behind(card_found(tower, (one, middle)), told[(middle, other)]):
                    return place
    return None


class EvenPaper(TowerCase):
    def test_all(self):
        for tower in TOWERS:
            self.assertEqual(is_even(tower), tower in EVEN)
            if tower in EVEN:
                self.told(first_paper(tower), even_paper, tower)
                self.told(None, check_even, tower, even_paper(tower))
            else:
                self.refused(Lacking, even_paper, tower)

    def test_by_hand(self):
        self.told((), even_paper, ALONE)
        self.told((), even_paper, APART)
        self.told(((0, 1, ("figures", ())), (0, 2, ("figures", ())), (0, 3, ("figures", ())), (1, 2, ("figures", ())),
                   (1, 3, ("figures", ())), (2, 3, ("places", (2,)))), even_paper, LINE)
        self.told(((1, 0, ("figures", (1,))), (2, 0, ("figures", (2, 1))), (2, 1, ("figures", (2, 1))),
                   (3, 0, ("figures", (3, 2, 1))), (3, 1, ("figures", (3, 2, 1))), (3, 2, ("figures", (3, 2))),
                   (4, 0, ("figures", (3, 2, 1))), (4, 1, ("figures", (3, 2, 1))), (4, 2, ("figures", (3, 2))),
                   (4, 3, ("figures", (3,)))), even_paper, DOWN)
        tower = ((WHOLE, ("rest", 2), OWN_TWO), ((0, 1, None), (1, 2, (1, 1))))
        self.told(((0, 1, ("round", (0, 1))), (0, 2, ("round", (1,))), (1, 2, ("row", (1, 1)))), even_paper, tower)

    def test_of_one_to_eight_kinds(self):
        for count in range(1, 9):
            tower = (SURES[0][:count], tuple(step for step in SURES[1] if max(step[:2]) < count))
            self.told(first_paper(tower), even_paper, tower)
            self.assertEqual(len(even_paper(tower)), count * (count - 1) // 2)
            self.told(None, check_even, tower, first_paper(tower))

    def test_two_rings_of_ways_that_are_no_rings(self):
        tower = ((WHOLE, ("rest", 12), ("rest", 6), ("rest", 4), ("rest", 2)),
                 steps((0, 1), (0, 2), (0, 3), (0, 4), (1, 2), (1, 3), (1, 4), (2, 4), (3, 4)))
        self.told(first_paper(tower), even_paper, tower)


class CheckEven(TowerCase):
    def wrong(self, place, tower, paper):
        """The paper is refused at this place."""
        self.refused_with(BadPaper, {"place": place}, check_even, tower, paper)

    def test_each_card_changed(self):
        for tower in TOWERS:
            paper = first_paper(tower)
            for place, (one, other, card) in enumerate(paper):
                for changed in self.like(card):
                    changed_paper = paper[:place] + ((one, other, changed),) + paper[place + 1:]
                    if fits(tower, one, other, changed):
                        self.wrong((wrong_row(tower, changed_paper),), tower, changed_paper)
                    elif tower in EVEN:
                        self.wrong_near(place, tower, changed_paper)

    def like(self, card):
        """List some cards that are not this one, of its own word and of others."""
        word, row = card
        found = [one for one in CARDS if one != card]
        if word in ("row", "round"):
            found += [(word, row[:place] + ((row[place] + 1) % 2,) + row[place + 1:]) for place in range(len(row))
                      if row[place] < 2]
            found += [(word, row + row[:1])] if len(row) < 12 else []
            found += [(word, row[1:])] if len(row) > 1 else []
        return found

    def wrong_near(self, place, tower, paper):
        """The paper is refused at a card that doesn't fit its ends, or at a row ahead of it that goes on by it."""
        with self.assertRaises(BadPaper) as caught:
            check_even(tower, paper)
        told = caught.exception.place
        self.assertEqual((type(told), len(told)), (tuple, 1))
        self.assertLessEqual(told[0], place)
        if told[0] < place:
            one, other, _ = paper[told[0]]
            self.assertEqual(other, paper[place][1])
            self.assertIn((one, paper[place][0]), [step[:2] for step in tower[1]])

    def test_cards_that_do_not_fit_in_many_rows(self):
        # Told is the first of these rows, or one ahead of it.
        chain = ((SHARE, S2, ROOT, A2, WHOLE), steps((0, 2), (2, 1), (4, 0), (4, 3)))
        for tower in EVEN + [chain, ((WHOLE, A2, SHARE), steps((0, 2), (2, 1))),
                             ((OWN_THREE, OWN_TWO, REST), ((0, 1, (0, 1, 0)), (2, 0, (0, 1, 2) * 2)))]:
            paper = first_paper(tower)
            for card in CARDS:
                for some in (range(len(paper)), range(0, len(paper), 2), range(1, len(paper), 3)):
                    changed = tuple(row[:2] + (card,) if place in some else row for place, row in enumerate(paper))
                    unfit = [place for place, row in enumerate(changed) if not fits(tower, *row)]
                    if unfit:
                        with self.assertRaises(BadPaper) as caught:
                            check_even(tower, changed)
                        self.assertNotEqual(caught.exception.place, ())
                        self.assertLessEqual(caught.exception.place[0], unfit[0])

    def test_rows_that_do_not_fit_and_yet_go_on_by_each_other(self):
        tower = ((WHOLE, OWN_TWO, ("rest", 2)), ((0, 2, None), (2, 1, (0, 1))))
        self.wrong((0,), tower, ((0, 1, ("round", (0, 11))), (0, 2, ("round", (0, 1))), (2, 1, ("row", (0, 11)))))
        self.wrong((0,), tower, ((0, 1, ("row", (0, 1))), (0, 2, ("row", (0, 1))), (2, 1, ("row", (0, 1)))))
        tower = ((WHOLE, A2, SHARE), steps((0, 2), (2, 1)))
        for card in (("places", ()), ("places", (3,)), ("row", (0,)), ("round", (0,))):
            self.wrong((0,), tower, ((0, 1, card), (0, 2, ("figures", ())), (2, 1, card)))

    def test_uneven_towers_have_no_paper(self):
        for tower in TOWERS:
            if tower not in EVEN:
                choices = [sorted({card_found(tower, way) for way in ways_found(tower, *pair)})
                           for pair in pairs_of(tower)]
                for number in range(24):
                    paper = tuple(pair + (choice[number // (place + 1) % len(choice)],)
                                  for place, (pair, choice) in enumerate(zip(pairs_of(tower), choices)))
                    self.assertIsNotNone(wrong_row(tower, paper))
                    self.wrong((wrong_row(tower, paper),), tower, paper)

    def test_by_hand(self):
        paper = even_paper(LINE)
        for place, card, wrong in ((5, ("places", (3,)), 5), (4, ("figures", (2,)), 2), (0, ("figures", (1,)), 0),
                                   (3, ("figures", (3,)), 1), (2, ("figures", (1,)), 2)):
            changed = paper[:place] + (paper[place][:2] + (card,),) + paper[place + 1:]
            self.wrong((wrong,), LINE, changed)
        # Two wrong rows that go on by each other: the one that isn't right is the one at the end.
        changed = paper[:2] + ((0, 3, ("figures", (2,))),) + paper[3:4] + ((1, 3, ("figures", (2,))),) + paper[5:]
        self.wrong((4,), LINE, changed)

    def test_rows_on_which_rows_ahead_go_on(self):
        paper = even_paper(DOWN)
        changed = ((1, 0, ("figures", (2,))), (2, 0, ("figures", (2,)))) + paper[2:]
        self.wrong((0,), DOWN, changed)
        changed = paper[:1] + ((2, 0, ("figures", (2,))),) + paper[2:]
        self.wrong((1,), DOWN, changed)

    def test_no_cards_by_their_form(self):
        for tower in (LINE, RESTS, EVEN_OWNS, DOWN):
            paper = even_paper(tower)
            for place, row in enumerate(paper):
                for card in NO_CARDS:
                    self.wrong((), tower, paper[:place] + (row[:2] + (card,),) + paper[place + 1:])

    def test_form_is_told_ahead_of_rows_that_are_not_right(self):
        paper = even_paper(LINE)
        wrong = ((0, 1, ("figures", (1,))),)
        self.wrong((), LINE, wrong + paper[1:5] + ((2, 3, ("places", (7,))),))
        self.wrong((), LINE, wrong + paper[1:5])
        self.wrong((0,), LINE, wrong + paper[1:])

    def test_other_pairs(self):
        for tower in EVEN:
            paper = even_paper(tower)
            self.wrong((), tower, paper + ((0, 0, ("figures", ())),))
            self.wrong((), tower, list(paper))
            for place in range(len(paper)):
                self.wrong((), tower, paper[:place] + paper[place + 1:])
                self.wrong((), tower, paper[:place] + paper[place:place + 1] * 2 + paper[place + 1:])
                self.wrong((), tower, paper[:place] + paper[place:place + 1] * 2 + paper[place + 2:]
                           if place + 1 < len(paper) else paper[:-1] + ((9, 9, ("figures", ())),))
            if len(paper) > 1:
                self.wrong((), tower, paper[::-1])
                self.wrong((), tower, (paper[1], paper[0]) + paper[2:])

    def test_other_rows(self):
        paper = even_paper(LINE)
        for place, row in enumerate(paper):
            for other in (row[:2], row + (None,), list(row), row[1:], (row[1], row[0], row[2]), None, (), (row,),
                          (row[0], None, row[2]), (str(row[0]),) + row[1:], (row[:2], row[2]), 0, "row"):
                self.wrong((), LINE, paper[:place] + (other,) + paper[place + 1:])
        self.wrong((), LINE, ((False, 1) + paper[0][2:],) + paper[1:])
        self.wrong((), LINE, ((0, True) + paper[0][2:],) + paper[1:])

    def test_things_of_every_kind(self):
        paper = even_paper(LINE)
        for thing in THINGS + NO_CARDS:
            self.wrong((), LINE, thing)
            self.wrong((), LINE, (thing,) * 6)
            self.wrong((), LINE, paper[:5] + (thing,))
            self.wrong((), LINE, paper[:5] + ((2, 3, thing),))
            if type(thing) is not tuple or [type(part) for part in thing] not in ([], [int]):
                self.wrong((), LINE, paper[:5] + ((2, 3, ("places", thing)),))
            if thing != ():
                self.wrong((), ALONE, thing)
        self.told(None, check_even, ALONE, ())

    def test_refusals(self):
        self.refuses_towers(even_paper, ())
        self.refuses_towers(check_even, ((),), (None,))
        for tower in TOWERS:
            if tower not in EVEN:
                self.wrong((), tower, None)

    def test_what_is_let_by_is_even(self):
        # All papers of a small uneven tower, and of a small even one, with cards that fit.
        for tower in (((WHOLE, A1, A2), steps((0, 1), (0, 2), (2, 1))),
                      ((WHOLE, A1, A2), steps((0, 1), (0, 2), (1, 2)))):
            passed = 0
            for cards in product([card for card in CARDS if card[0] == "figures"], repeat=3):
                paper = tuple(pair + (card,) for pair, card in zip(pairs_of(tower), cards))
                try:
                    check_even(tower, paper)
                except TowerError as caught:
                    self.assertEqual(caught.place, (wrong_row(tower, paper),))
                else:
                    passed += 1
            self.assertEqual(passed, 0)
        tower = ((WHOLE, A1, A2), steps((0, 2), (2, 1)))
        self.told(None, check_even, tower, ((0, 1, ("figures", (2, 1))), (0, 2, ("figures", (2,))),
                                            (2, 1, ("figures", (2, 1)))))

    def test_of_own_kinds_and_rests(self):
        for tower in (RESTS, EVEN_OWNS, (OWN_PAIR, ((0, 1, (1, 0)),))):
            self.told(None, check_even, tower, first_paper(tower))


OWN_PAIR = (OWN_TWO, OWN_SIX)
