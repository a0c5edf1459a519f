"""[76] HOUSES: towerwise.house."""

from itertools import product
from random import Random

from tests.deedcase import DEEDS, NO_DEEDS
from tests.mixedcase import BOUND, TOWERS, some_numbers
from tests.test_above import CROSS
from tests.things import OWN_TWO, THINGS, same
from tests.towercase import (A1, A2, A3, APART, BAD_TOWERS, EIGHT, FORK, LINE, REST, RESTS, S0, SHARE, TowerCase, WHOLE,
                             steps)
from towerwise.errors import (BadKind, BadName, BadTower, BadWorth, ByNought, Lacking, NoDeed, NoKind, NoOrder,
                              TooGreat, TowerError, TwoKinds)
from towerwise.house import House
from towerwise.likeness import likeness_of
from towerwise.mixed import mixed_deed
from towerwise.order import order_of
from towerwise.towers import with_kind, with_step

HALF, ONE = (1, 2), (1, 1)


def house_of(tower, **numbers):
    """Make a house of a tower with these numbers."""
    house = House(tower)
    for name, number in numbers.items():
        house.name(name, number)
    return house


def outcome(function, *handed):
    """Tell what a function tells, or its refusal with its fields."""
    try:
        return function(*handed)
    except TowerError as caught:
        return (type(caught), tuple(sorted(vars(caught).items())))


def state(house):
    """Tell all that a house tells of itself."""
    return (house.tower(), house.names(), [house.number(name) for name in house.names()], house.looked())


class HouseCase(TowerCase):
    def keeps(self, house, error, function, *handed):
        """The function refuses so, and the house stays as it is but for what it looked for."""
        before = state(house)[:3]
        self.refused(error, function, *handed)
        self.assertEqual(state(house)[:3], before)


class Towers(HouseCase):
    def test_it_begins_with_the_tower(self):
        for tower in TOWERS:
            house = House(tower)
            self.assertTrue(same(house.tower(), tower))
            self.assertEqual((house.names(), house.looked()), ([], 0))

    def test_no_towers(self):
        for place, thing in BAD_TOWERS:
            self.refused_with(BadTower, {"place": place}, House, thing)
        for thing in THINGS:
            self.refused(BadTower, House, thing)

    def test_kinds_and_steps_more(self):
        house = House(((WHOLE,), ()))
        self.assertEqual([house.kind(kind) for kind in LINE[0][1:]], [1, 2, 3])
        self.assertIsNone(house.step((1, 2, None)))
        self.assertIsNone(house.step((2, 3, None)))
        self.assertIsNone(house.step((0, 1, None)))
        self.assertTrue(same(house.tower(), LINE))

    def test_kinds_that_are_refused(self):
        house = house_of(LINE, a=(0, 1))
        for thing in THINGS + [("root", 4), ["whole"]]:
            if outcome(with_kind, LINE, thing) == (BadKind, ()):
                self.keeps(house, BadKind, house.kind, thing)
        for kind in LINE[0]:
            self.keeps(house, BadTower, house.kind, kind)
            self.refused_with(BadTower, {"place": (0, 4)}, house.kind, kind)
        full = House(EIGHT)
        self.refused_with(BadTower, {"place": (0, 8)}, full.kind, REST)
        self.refused(BadKind, full.kind, None)
        self.assertEqual(full.tower(), EIGHT)

    def test_steps_that_are_refused(self):
        house = house_of(LINE, a=(0, 1))
        for thing in THINGS + [(0, 1, None), (3, 0, None), (0, 4, None), (0, 3, 5), (2, 0, None)]:
            self.keeps(house, BadTower, house.step, thing)
            self.assertEqual(outcome(house.step, thing), outcome(with_step, LINE, thing))
        ring = House(((A1, A2), steps((0, 1))))
        self.refused_with(BadTower, {"place": (2,)}, ring.step, (1, 0, None))
        self.assertEqual(ring.tower(), ((A1, A2), steps((0, 1))))

    def test_numbers_stay_where_the_tower_grows(self):
        house = house_of(APART, a=(0, 5), b=(1, HALF))
        house.kind(A1)
        house.step((0, 1, None))
        self.assertEqual((house.names(), house.number("a"), house.number("b")), (["a", "b"], (0, 5), (1, HALF)))


class Names(HouseCase):
    def test_names_rise(self):
        house = house_of(LINE, zz=(0, 1), b=(0, 2), abcdef=(0, 3), aa=(1, HALF))
        self.assertEqual(house.names(), ["aa", "abcdef", "b", "zz"])

    def test_told_again_the_later_one_counts(self):
        house = house_of(LINE, a=(0, 1))
        house.name("a", (1, HALF))
        self.assertEqual((house.names(), house.number("a")), (["a"], (1, HALF)))

    def test_no_names(self):
        house = house_of(LINE, a=(0, 1))
        for thing in THINGS + ["A", "a1", "abcdefg", "a ", ("a",)]:
            if type(thing) is not str or not (thing.isalpha() and thing.islower() and len(thing) < 7):
                self.keeps(house, BadName, house.name, thing, (0, 2))
                self.keeps(house, BadName, house.name, thing, None)

    def test_no_numbers(self):
        house = house_of(LINE, a=(0, 1))
        for thing in THINGS + [(0, HALF), (4, 1), (True, 1), [0, 1], (1, (2, 4))]:
            if type(thing) is not tuple or thing not in ((0, 0), (0, 1), (0, 5)) or type(thing[1]) is bool or type(
                    thing[0]) is bool:
                self.keeps(house, BadWorth, house.name, "a", thing)
                self.keeps(house, BadWorth, house.name, "b", thing)

    def test_numbers_that_lack(self):
        house = house_of(LINE, a=(0, 1))
        for thing in THINGS + ["A", "aa", ""]:
            if type(thing) is not str or thing != "a":
                self.keeps(house, Lacking, house.number, thing)

    def test_told_lists_changed(self):
        house = house_of(LINE, a=(0, 1))
        house.names().append("zz")
        house.names().clear()
        self.assertEqual(house.names(), ["a"])


class Questions(HouseCase):
    def test_all(self):
        for tower in TOWERS:
            numbers = some_numbers(tower, 5)[:9]
            house = house_of(tower, **{chr(97 + place): number for place, number in enumerate(numbers)})
            pairs = list(product(house.names(), repeat=2))
            for one, other in pairs:
                left, right = house.number(one), house.number(other)
                for deed in DEEDS:
                    wanted = outcome(mixed_deed, tower, deed, left, right)
                    self.assertEqual(outcome(house.deed, deed, one, other), wanted)
                self.assertEqual(outcome(house.likeness, one, other), outcome(likeness_of, tower, left, right))
                self.assertEqual(outcome(house.order, one, other), outcome(order_of, tower, left, right))
            self.assertEqual(house.names(), sorted(chr(97 + place) for place in range(len(numbers))))

    def test_refusals(self):
        house = house_of(CROSS, a=(0, 1), b=(1, HALF), n=(0, 0), g=(0, 2 * BOUND), t=(2, (1, 0)))
        for thing in THINGS + ["zz", "A"]:
            if type(thing) is not str or thing not in ("a", "b"):
                for function, ahead in ((house.deed, ("plus",)), (house.deed, (None,)), (house.likeness, ()),
                                        (house.order, ())):
                    self.keeps(house, Lacking, function, *ahead, thing, "a")
                    self.keeps(house, Lacking, function, *ahead, "a", thing)
                    self.keeps(house, Lacking, function, *ahead, thing, thing)
        for thing in THINGS + list(NO_DEEDS):
            if type(thing) is not str or thing not in DEEDS:
                self.keeps(house, NoDeed, house.deed, thing, "a", "b")
        self.refused_with(TwoKinds, {"one": 2, "other": 3}, house.deed, "plus", "a", "b")
        self.refused_with(TwoKinds, {"one": 2, "other": 3}, house.deed, "over", "a", "n")
        self.keeps(house, NoOrder, house.order, "a", "b")
        self.assertEqual(house.likeness("a", "b"), "perhaps")
        line = house_of(LINE, a=(0, 1), n=(0, 0), g=(0, 2 * BOUND), h=(1, HALF))
        self.keeps(line, ByNought, line.deed, "over", "a", "n")
        self.keeps(line, TooGreat, line.deed, "over", "g", "n")
        self.keeps(line, TooGreat, line.deed, "plus", "g", "h")
        self.keeps(line, TooGreat, line.likeness, "g", "h")
        self.keeps(line, TooGreat, line.order, "h", "g")
        fork = house_of(FORK, a=(2, (1, 0)), b=(3, (ONE, ONE)))
        self.keeps(fork, NoKind, fork.deed, "plus", "a", "b")
        self.keeps(fork, NoOrder, fork.order, "a", "b")

    def test_other_leasts_where_the_tower_grows(self):
        house = house_of(((WHOLE, SHARE, A3, S0), steps((0, 2), (1, 2), (2, 3))), a=(0, 1), b=(1, HALF))
        self.assertEqual(house.deed("plus", "a", "b"), (2, (15, -1)))
        house.step((0, 1, None))
        self.assertEqual(house.deed("plus", "a", "b"), (1, (3, 2)))
        alone = house_of(((WHOLE, SHARE), ()), a=(0, 1), b=(1, HALF))
        self.refused(NoKind, alone.deed, "plus", "a", "b")
        alone.kind(A2)
        self.refused(NoKind, alone.deed, "plus", "a", "b")
        alone.step((0, 2, None))
        alone.step((1, 2, None))
        self.assertEqual(alone.deed("plus", "a", "b"), (2, (15, -1)))
        alone.kind(A3)
        alone.step((0, 3, None))
        alone.step((1, 3, None))
        self.refused_with(TwoKinds, {"one": 2, "other": 3}, alone.deed, "plus", "a", "b")
        alone.step((3, 2, None))
        self.assertEqual(alone.deed("plus", "a", "b"), (3, (15, -1)))


class Looked(HouseCase):
    def counts(self, house, wanted, *questions):
        """After these questions the house has looked so often."""
        for function, *handed in questions:
            outcome(getattr(house, function), *handed)
        self.assertEqual(house.looked(), wanted)

    def test_once_as_long_as_the_tower_stays(self):
        house = house_of(LINE, a=(0, 1), b=(1, HALF), c=(0, 7), d=(1, (1, 3)))
        self.counts(house, 0)
        self.counts(house, 1, ("deed", "plus", "a", "b"))
        self.counts(house, 1, ("deed", "plus", "a", "b"), ("deed", "plus", "b", "a"), ("deed", "plus", "c", "d"),
                    ("deed", "plus", "d", "a"))
        self.counts(house, 2, ("deed", "less", "a", "b"), ("deed", "less", "b", "a"))
        self.counts(house, 3, ("deed", "plus", "a", "a"), ("deed", "plus", "a", "c"))
        self.counts(house, 4, ("likeness", "a", "b"), ("likeness", "d", "c"))
        self.counts(house, 4, ("order", "a", "b"), ("order", "b", "a"), ("order", "c", "d"))
        self.counts(house, 5, ("order", "b", "d"), ("likeness", "b", "b"))

    def test_where_there_is_none_or_two(self):
        house = house_of(CROSS, a=(0, 1), b=(1, HALF))
        self.counts(house, 1, ("deed", "plus", "a", "b"), ("deed", "plus", "b", "a"), ("deed", "plus", "a", "b"))
        self.counts(house, 2, ("likeness", "a", "b"), ("order", "b", "a"), ("likeness", "b", "a"))
        fork = house_of(FORK, a=(2, (1, 0)), b=(3, (ONE, ONE)))
        self.counts(fork, 1, ("deed", "plus", "a", "b"), ("deed", "plus", "b", "a"))
        self.counts(fork, 2, ("order", "a", "b"), ("likeness", "a", "b"))

    def test_what_is_refused_ahead_looks_for_nothing(self):
        house = house_of(LINE, a=(0, 1))
        self.counts(house, 0, ("deed", "plus", "a", "zz"), ("deed", "plus", "zz", "a"), ("deed", "foo", "a", "a"),
                    ("likeness", "a", "zz"), ("order", "zz", "a"), ("name", "A", (0, 1)), ("number", "zz"))

    def test_by_nought_and_too_great_are_looked_for(self):
        house = house_of(LINE, a=(0, 1), n=(0, 0), g=(0, BOUND))
        self.counts(house, 1, ("deed", "over", "a", "n"), ("deed", "over", "n", "a"))
        self.counts(house, 2, ("deed", "plus", "g", "g"), ("deed", "plus", "a", "a"))

    def test_each_part_more_lets_it_be_looked_for_again(self):
        house = house_of(((WHOLE, SHARE), ()), a=(0, 1), b=(1, HALF))
        question = ("deed", "plus", "a", "b")
        self.counts(house, 1, question, question)
        house.kind(A2)
        self.counts(house, 1)
        self.counts(house, 2, question, question)
        house.step((0, 1, None))
        self.counts(house, 3, question, question)
        for wrong in ((house.kind, WHOLE), (house.kind, None), (house.step, (0, 1, None)), (house.step, None)):
            outcome(*wrong)
        self.counts(house, 3, question)
        house.name("c", (0, 3))
        self.counts(house, 3, question, ("deed", "plus", "c", "b"))

    def test_the_same_told_each_time(self):
        draw = Random(71)
        for tower in TOWERS:
            numbers = draw.sample(some_numbers(tower), 4)
            house = house_of(tower, **dict(zip("abcd", numbers)))
            questions = [("deed", deed) + pair for deed in DEEDS for pair in product("abcd", repeat=2)]
            questions += [(word,) + pair for word in ("likeness", "order") for pair in product("abcd", repeat=2)]
            first = [outcome(getattr(house, word), *handed) for word, *handed in questions]
            looked = house.looked()
            self.assertEqual([outcome(getattr(house, word), *handed) for word, *handed in questions], first)
            self.assertEqual(house.looked(), looked)
            kinds = {frozenset((one[0], other[0])) for one, other in product(numbers, repeat=2)}
            self.assertEqual(looked, 5 * len(kinds))


class Copies(HouseCase):
    def test_a_copy_is_alike(self):
        house = house_of(LINE, a=(0, 1), b=(1, HALF))
        house.deed("plus", "a", "b")
        copy = house.copied()
        self.assertIsInstance(copy, House)
        self.assertEqual(state(copy), state(house))
        copy.deed("plus", "b", "a")
        self.assertEqual(copy.looked(), 1)

    def test_it_goes_its_own_way(self):
        house = house_of(((WHOLE, SHARE), ()), a=(0, 1), b=(1, HALF))
        outcome(house.deed, "plus", "a", "b")
        copy = house.copied()
        before = state(house)
        copy.name("c", (0, 9))
        copy.name("a", (0, 2))
        copy.kind(S0)
        copy.step((0, 1, None))
        self.assertEqual(copy.deed("plus", "a", "b"), (1, (5, 2)))
        self.assertEqual(state(house), before)
        self.refused(NoKind, house.deed, "plus", "a", "b")
        later = state(copy)
        house.name("d", (0, 4))
        house.kind(OWN_TWO)
        house.deed("plus", "a", "a")
        self.assertEqual(state(copy), later)
        self.assertEqual(copy.copied().copied().number("a"), (0, 2))

    def test_two_houses_do_not_touch_each_other(self):
        one, other = House(RESTS), House(RESTS)
        one.name("a", (1, 5))
        one.deed("plus", "a", "a")
        self.assertEqual((other.names(), other.looked()), ([], 0))
        other.name("a", (2, 3))
        self.assertEqual((one.number("a"), other.number("a")), ((1, 5), (2, 3)))
        one.kind(WHOLE) if WHOLE not in RESTS[0] else one.kind(S0)
        self.assertEqual(other.tower(), RESTS)
