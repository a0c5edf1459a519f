"""[41] CARDS of ways: towerwise.cards."""

from itertools import product

from tests.things import OWN_SIX, OWN_TWO, THINGS
from tests.towercase import (A1, A2, A3, ALONE, APART, EIGHT, FALLING, FORK, GOOD_TOWERS, LINE, OWNS, REST, RESTS, ROOT,
                             S0, S2, S6, SHARE, SPLIT, TowerCase, WHOLE, carried, some_worths, steps, ways_found)
from towerwise.cards import by_card, card_behind, card_of, card_of_step
from towerwise.errors import BadWay

# Whole numbers go to rests whose rows go round sooner than the rests do.
SHORT = ((WHOLE, ("rest", 12), ("rest", 6), OWN_SIX, OWN_TWO),
         steps((0, 1), (0, 2), (1, 2), (1, 3, (0, 1, 2, 3) * 3), (1, 4, (0, 1) * 6), (2, 3, (4,) * 6),
               (2, 4, (0, 1, 1) * 2), (3, 4, (0, 1, 0, 1, 1, 1))))
TOWERS = GOOD_TOWERS + [SHORT]


def ways_of(tower):
    """List all ways of a tower."""
    numbers = range(len(tower[0]))
    return [way for one, other in product(numbers, repeat=2) for way in ways_found(tower, one, other)]


def finite(kind):
    """Tell whether a kind is a rest or an own one."""
    return kind[0] in ("rest", "own")


def round_row(told):
    """Tell the shortest row that goes round as a list does that goes round twice at least."""
    for many in range(1, len(told)):
        if all(told[place] == told[place % many] for place in range(len(told))):
            return tuple(told[:many])
    return None


def card_found(tower, way):
    """Tell a way's CARD by what worths come to and which kinds it comes to."""
    kinds = [tower[0][number] for number in way]
    if finite(kinds[0]):
        return ("row", tuple(carried(tower, way, worth) for worth in some_worths(kinds[0])))
    if finite(kinds[-1]):
        return ("round", round_row([carried(tower, way, number) for number in range(48)]))
    if kinds[0][0] == "root":
        return ("places", tuple(kind[1] for kind in kinds if kind[0] == "sure")[:1])
    figures = [kind[1] for kind in kinds if kind[0] == "about"]
    return ("figures", tuple(many for place, many in enumerate(figures) if all(many < one for one in figures[:place])))


class Cards(TowerCase):
    def test_of_all_ways(self):
        for tower in TOWERS:
            for way in ways_of(tower):
                self.told(card_found(tower, way), card_of, tower, way)

    def test_of_all_steps(self):
        for tower in TOWERS:
            for one, other, _ in tower[1]:
                self.told(card_found(tower, (one, other)), card_of_step, tower, one, other)

    def test_from_finite_kinds(self):
        for tower, way, row in (
                (RESTS, (1,), tuple(range(12))), (RESTS, (1, 2), (0, 1, 2, 3, 4, 5) * 2), (RESTS, (4, 5), (1, 0)),
                (RESTS, (1, 2, 4), (0, 1) * 6), (RESTS, (1, 2, 4, 5), (1, 0) * 6), (OWNS, (0,), (0, 1, 2, 3, 4, 5)),
                (OWNS, (0, 1), (0, 1, 2, 0, 1, 2)), (OWNS, (0, 1, 3), (0, 3, 1, 0, 3, 1)), (OWNS, (0, 2, 3), (0,) * 6),
                (SPLIT, (0, 4, 2), (2, 0, 1) * 2), (SPLIT, (0, 4, 2, 3), (1, 3, 2) * 2),
                (ALONE, (0,), (0, 1, 2, 3, 4, 5)),
                (APART, (6,), (0, 1))):
            self.told(("row", row), card_of, tower, way)

    def test_rows_of_finite_kinds_are_never_made_shorter(self):
        tower = ((REST, OWN_TWO), ((0, 1, (1,) * 6),))
        self.told(("row", (1,) * 6), card_of, tower, (0, 1))
        self.told(("row", (1,) * 6), card_of_step, tower, 0, 1)

    def test_from_whole_to_finite_kinds(self):
        for tower, way, row in (
                (RESTS, (0, 1), tuple(range(12))), (RESTS, (0, 3), (0, 1, 2, 3)),
                (RESTS, (0, 1, 2), (0, 1, 2, 3, 4, 5)),
                (RESTS, (0, 1, 3), (0, 1, 2, 3)), (RESTS, (0, 1, 2, 4), (0, 1)), (RESTS, (0, 3, 4, 5), (1, 0)),
                (SHORT, (0, 1, 3), (0, 1, 2, 3)), (SHORT, (0, 1, 4), (0, 1)), (SHORT, (0, 2, 3), (4,)),
                (SHORT, (0, 2, 4), (0, 1, 1)), (SHORT, (0, 1, 2, 4), (0, 1, 1)), (SHORT, (0, 1, 3, 4), (0, 1)),
                (SHORT, (0, 2, 3, 4), (1,)), (FORK, (0, 4), (0, 1, 2, 3, 4, 5))):
            self.told(("round", row), card_of, tower, way)

    def test_the_shortest_row_goes_round_whole_times(self):
        for row, wanted in (((0, 1, 0, 1), (0, 1)), ((0, 1, 1, 0), (0, 1, 1, 0)), ((0, 0, 0, 1), (0, 0, 0, 1)),
                            ((0, 0, 0, 0), (0,)), ((1, 0, 1, 1), (1, 0, 1, 1))):
            tower = ((WHOLE, ("rest", 4), OWN_TWO), ((0, 1, None), (1, 2, row)))
            self.told(("round", wanted), card_of, tower, (0, 1, 2))
        for row, wanted in (((0, 1, 0, 1, 0), (0, 1, 0, 1, 0)), ((1, 1, 1, 1, 1), (1,)),
                            ((0, 1, 1, 0, 1), (0, 1, 1, 0, 1))):
            tower = ((WHOLE, ("rest", 5), OWN_TWO), ((0, 1, None), (1, 2, row)))
            self.told(("round", wanted), card_of, tower, (0, 1, 2))

    def test_from_roots(self):
        tower = ((ROOT, S0, S2, S6), steps((0, 1), (0, 2), (1, 3), (2, 1), (2, 3)))
        for way, row in (((0,), ()), ((0, 1), (0,)), ((0, 2), (2,)), ((0, 2, 1), (2,)), ((0, 1, 3), (0,)),
                         ((0, 2, 1, 3), (2,)), ((0, 2, 3), (2,))):
            self.told(("places", row), card_of, tower, way)

    def test_figures_falling_and_not(self):
        tower = ((WHOLE, SHARE, A1, A2, A3, S0), steps((0, 1), (0, 2), (0, 3), (0, 4), (1, 4), (2, 3), (2, 5), (3, 4),
                                                       (4, 5)))
        falling = ((A3, A2, A1, SHARE, S2), steps((0, 1), (0, 2), (0, 4), (1, 2), (2, 4), (3, 0), (3, 1)))
        for one, way, row in (
                (tower, (0,), ()), (tower, (1,), ()), (tower, (5,), ()), (tower, (2,), (1,)), (tower, (4,), (3,)),
                (tower, (0, 1), ()), (tower, (0, 2), (1,)), (tower, (0, 2, 3), (1,)), (tower, (0, 2, 3, 4, 5), (1,)),
                (tower, (0, 3, 4), (2,)), (tower, (1, 4, 5), (3,)), (tower, (2, 3, 4), (1,)),
                (tower, (0, 1, 4, 5), (3,)),
                (falling, (0,), (3,)), (falling, (0, 1), (3, 2)), (falling, (0, 1, 2), (3, 2, 1)),
                (falling, (0, 2), (3, 1)),
                (falling, (1, 2, 4), (2, 1)), (falling, (3, 0, 1, 2, 4), (3, 2, 1)), (falling, (3, 1, 2), (2, 1)),
                (falling, (0, 4), (3,)), (falling, (4,), ())):
            self.told(("figures", row), card_of, one, way)

    def test_falling_figures_between_rising_ones(self):
        tower = ((A2, A3, A1, WHOLE), steps((0, 1), (1, 2), (3, 0)))
        self.told(("figures", (2, 1)), card_of, tower, (0, 1, 2))
        self.told(("figures", (2,)), card_of, tower, (3, 0, 1))
        self.told(("figures", (2, 1)), card_of, tower, (3, 0, 1, 2))

    def test_numbers_and_roots_leave_nothing_on_the_way(self):
        for way in ((0, 1), (0, 1, 2), (1, 2, 3), (0, 1, 2, 3)):
            self.told(("figures", ()), card_of, LINE, way)
        self.told(("places", (2,)), card_of, LINE, (2, 3))
        self.told(("places", (0,)), card_of, FALLING, (3, 1, 0))
        self.told(("figures", ()), card_of, FALLING, (5, 4, 3, 1))
        self.told(("figures", (2,)), card_of, FALLING, (5, 4, 2, 1))


class Behind(TowerCase):
    def test_all_that_fit(self):
        for tower in TOWERS:
            for way in ways_of(tower):
                for place in range(len(way)):
                    one, other = card_found(tower, way[:place + 1]), card_found(tower, way[place:])
                    self.told(card_found(tower, way), card_behind, one, other)

    def test_by_hand(self):
        for one, other, wanted in (
                (("row", (1, 0, 2)), ("row", (5, 4, 3)), ("row", (4, 5, 3))),
                (("row", (1, 1)), ("row", (0, 3)), ("row", (3, 3))),
                (("round", (0, 1, 2, 3)), ("row", (0, 1, 0, 1)), ("round", (0, 1))),
                (("round", (2, 0)), ("row", (1, 0, 1)), ("round", (1,))),
                (("figures", ()), ("round", (0, 1, 2)), ("round", (0, 1, 2))),
                (("figures", ()), ("figures", ()), ("figures", ())),
                (("figures", (3,)), ("figures", (3, 1)), ("figures", (3, 1))),
                (("figures", (3, 2)), ("figures", (2, 1)), ("figures", (3, 2, 1))),
                (("figures", (1,)), ("figures", (3, 2)), ("figures", (1,))),
                (("figures", (2,)), ("figures", ()), ("figures", (2,))),
                (("figures", ()), ("figures", (2, 1)), ("figures", (2, 1))),
                (("figures", (2,)), ("figures", (3, 1)), ("figures", (2, 1))),
                (("figures", ()), ("places", (4,)), ("figures", ())),
                (("figures", ()), ("places", ()), ("figures", ())),
                (("places", ()), ("places", ()), ("places", ())), (("places", ()), ("places", (0,)), ("places", (0,))),
                (("places", (0,)), ("figures", ()), ("places", (0,))),
                (("places", (6,)), ("figures", ()), ("places", (6,)))):
            self.told(wanted, card_behind, one, other)


class ByCard(TowerCase):
    def test_what_comes_up_all_ways(self):
        for tower in TOWERS:
            for way in ways_of(tower):
                start = tower[0][way[0]]
                if finite(tower[0][way[-1]]):
                    for worth in some_worths(start) if finite(start) else list(range(40)) + [10 ** 60, 10 ** 300 + 7]:
                        self.told(carried(tower, way, worth), by_card, card_of(tower, way), worth)

    def test_by_hand(self):
        for card, worth, wanted in ((("row", (4, 3, 3)), 0, 4), (("row", (4, 3, 3)), 2, 3),
                                    (("round", (5, 1, 2)), 3, 5),
                                    (("round", (5, 1, 2)), 100, 1), (("round", (7,)), 12, 7),
                                    (("row", (0,) * 12), 11, 0)):
            self.told(wanted, by_card, card, worth)


class Refusals(TowerCase):
    def test_towers(self):
        self.refuses_towers(card_of, ((0,),), (None,))
        self.refuses_towers(card_of_step, (0, 1), (None, None))

    def test_ways(self):
        for tower in (LINE, RESTS, EIGHT, S_TOWER):
            for way in ((), [0], (0, 0), (1, 0), (True,), (0, True), None, 0, (9,), (-1,), (0, 9), ((0,),), "0"):
                self.refused(BadWay, card_of, tower, way)
        good = ((0,), (1,), (2,), (3,), (0, 1), (1, 2), (2, 3), (0, 1, 2), (1, 2, 3))
        self.refuses_others(BadWay, card_of, lambda thing: type(thing) is tuple and thing in good and True not in [
            part is True or part is False for part in thing], ahead=(LINE,))

    def test_no_step(self):
        for tower in TOWERS:
            ends = [step[:2] for step in tower[1]]
            for one, other in product(range(-1, len(tower[0]) + 1), repeat=2):
                if (one, other) not in ends:
                    self.refused(BadWay, card_of_step, tower, one, other)
        for thing in THINGS:
            if type(thing) is not int or thing != 0:
                self.refused(BadWay, card_of_step, LINE, thing, 1)
            if type(thing) is not int or thing != 1:
                self.refused(BadWay, card_of_step, LINE, 0, thing)
            self.refused(BadWay, card_of_step, LINE, thing, thing)


S_TOWER = ((S0, S6, A1, A2), steps((0, 1), (2, 1), (2, 3)))
