"""[30] Own kinds, told by two tables: towerwise.own."""

from itertools import product

from tests.deedcase import DEEDS, DeedCase
from tests.test_worths import is_good
from tests.things import Case, OWN_SIX, OWN_TWO
from tests.towercase import OWN_FOUR, OWN_THREE
from towerwise.errors import BadKind, BadWorth, ByNought, NoDeed
from towerwise.own import is_even, is_group, nought_of, one_of, own_deed

ROWS = list(product((0, 1), repeat=2))
TABLES_OF_TWO = list(product(ROWS, repeat=2))
LEFT = ((0, 0, 0), (1, 1, 1), (2, 2, 2))     # x by y is x: each y is still on the right side
RIGHT = ((0, 1, 2), (0, 1, 2), (0, 1, 2))    # x by y is y: each x is still on the left side
LESS = ((0, 2, 1), (1, 0, 2), (2, 1, 0))     # x by y is x less y among rests of three: 0 is still on the right alone
THREES = ((0, 1, 2), (1, 2, 0), (2, 0, 1))
TIMES = ((0, 0, 0), (0, 1, 2), (0, 2, 1))


def some_tables(many, how_many):
    """Make tables that look like no others, by the figures of great numbers."""
    found, number = [], 12345
    for _ in range(how_many):
        rows = []
        for _ in range(many):
            number = number * 7 ** 9 % (10 ** 9 + 7)
            rows.append(tuple(number // many ** place % many for place in range(many)))
        found.append(tuple(rows))
    return found


def rest_tables(many):
    """Make both tables of the rests of so many."""
    return (tuple(tuple((one + other) % many for other in range(many)) for one in range(many)),
            tuple(tuple(one * other % many for other in range(many)) for one in range(many)))


def turned(table, change):
    """Tell the same table with its worths called otherwise."""
    back = [change.index(worth) for worth in range(len(change))]
    return tuple(tuple(change[table[back[one]][back[other]]] for other in range(len(table)))
                 for one in range(len(table)))


def some_kinds():
    """List own kinds of all sizes and of many sorts."""
    found = [OWN_TWO, OWN_THREE, OWN_FOUR, OWN_SIX]
    found += [("own", plus, times) for plus in TABLES_OF_TWO for times in TABLES_OF_TWO]
    found += [("own",) + rest_tables(many) for many in range(2, 7)]
    found += [("own", turned(OWN_FOUR[1], change), turned(OWN_FOUR[2], change))
              for change in ((1, 0, 2, 3), (3, 1, 0, 2), (2, 3, 1, 0))]
    threes = [LEFT, RIGHT, LESS, THREES, TIMES] + some_tables(3, 12)
    found += [("own", plus, times) for plus in threes for times in threes]
    return found + [("own", table, turned(rest_tables(4)[0], (2, 0, 1, 3))) for table in some_tables(4, 5)]


def still(table):
    """Tell the worth by which all others stay, None without one."""
    numbers = range(len(table))
    found = [one for one in numbers if all(table[one][x] == x and table[x][one] == x for x in numbers)]
    return found[0] if found else None


def undone(table, one, other):
    """List the worths which, put ahead of other, come to one."""
    return [worth for worth in range(len(table)) if table[worth][other] == one]


def by_hand(kind, deed, one, other):
    """Tell what comes of a deed, or the error that is due."""
    _, plus, times = kind
    numbers, nought = range(len(plus)), still(plus)
    if deed in ("plus", "times"):
        return (plus if deed == "plus" else times)[one][other]
    if deed == "less":
        has = all(len(undone(plus, x, y)) == 1 for x in numbers for y in numbers)
        return undone(plus, one, other)[0] if has else NoDeed
    has = nought is not None and all(len(undone(times, x, y)) == 1 for x in numbers for y in numbers if y != nought)
    if not has or other == nought:
        return ByNought if has else NoDeed
    return undone(times, one, other)[0]


class Noughts(Case):
    def test_all(self):
        for kind in some_kinds():
            self.told(still(kind[1]), nought_of, kind)
            self.told(still(kind[2]), one_of, kind)

    def test_with_both_with_one_with_none(self):
        for plus, times, nought, one in ((THREES, TIMES, 0, 1), (THREES, LEFT, 0, None), (LEFT, TIMES, None, 1),
                                         (LEFT, RIGHT, None, None), (TIMES, THREES, 1, 0), (TIMES, TIMES, 1, 1)):
            self.told(nought, nought_of, ("own", plus, times))
            self.told(one, one_of, ("own", plus, times))

    def test_one_sided_ones_are_none(self):
        for table in (LEFT, RIGHT, LESS):
            self.told(None, nought_of, ("own", table, TIMES))
            self.told(None, one_of, ("own", THREES, table))

    def test_at_each_place(self):
        for change, nought in (((0, 1, 2), 0), ((1, 0, 2), 1), ((2, 1, 0), 2), ((1, 2, 0), 1)):
            self.told(nought, nought_of, ("own", turned(THREES, change), LEFT))
            self.told(nought, one_of, ("own", LEFT, turned(THREES, change)))


class Deeds(DeedCase):
    def test_all_of_all_kinds(self):
        for kind in some_kinds():
            for deed in DEEDS:
                for one in range(len(kind[1])):
                    for other in range(len(kind[1])):
                        wanted = by_hand(kind, deed, one, other)
                        if wanted in (NoDeed, ByNought):
                            self.refused(wanted, own_deed, kind, deed, one, other)
                        else:
                            self.told(wanted, own_deed, kind, deed, one, other)

    def test_by_hand(self):
        odd = ("own", ((1, 0, 2), (0, 2, 1), (2, 1, 0)), ((0, 1, 1), (2, 0, 1), (1, 1, 1)))
        for kind, deed, one, other, wanted in (
                (odd, "plus", 0, 0, 1), (odd, "plus", 1, 2, 1), (odd, "times", 1, 0, 2), (odd, "times", 0, 1, 1),
                (odd, "less", 0, 2, 2), (odd, "less", 2, 1, 1), (("own", LESS, TIMES), "less", 1, 2, 0),
                (("own", LESS, TIMES), "less", 2, 1, 0), (("own", LESS, TIMES), "less", 0, 1, 1),
                (OWN_FOUR, "less", 1, 3, 2), (OWN_FOUR, "over", 1, 2, 3), (OWN_FOUR, "over", 2, 3, 3),
                (OWN_FOUR, "over", 0, 3, 0), (OWN_SIX, "less", 1, 4, 3), (OWN_SIX, "times", 4, 5, 2)):
            self.told(wanted, own_deed, kind, deed, one, other)

    def test_kinds_without_less(self):
        for plus in (RIGHT, ((0, 1, 1), (1, 1, 1), (2, 1, 0)), TIMES):
            for one, other in product(range(3), repeat=2):
                self.refused(NoDeed, own_deed, ("own", plus, TIMES), "less", one, other)

    def test_kinds_that_have_less_from_one_side_alone(self):
        # x less y is the one w with w plus y being x, not y plus w.
        for one, other in product(range(3), repeat=2):
            self.told(one, own_deed, ("own", LEFT, TIMES), "less", one, other)
            self.refused(NoDeed, own_deed, ("own", RIGHT, TIMES), "less", one, other)

    def test_kinds_without_over(self):
        for kind in (OWN_THREE, OWN_SIX, ("own", THREES, RIGHT), ("own", LEFT, THREES), ("own", LESS, THREES)):
            for one, other in product(range(3), repeat=2):
                self.refused(NoDeed, own_deed, kind, "over", one, other)

    def test_over_of_kinds_whose_nought_is_another_worth(self):
        kind = ("own", turned(THREES, (2, 0, 1)), turned(TIMES, (2, 0, 1)))
        self.told(2, nought_of, kind)
        for one in range(3):
            self.refused(ByNought, own_deed, kind, "over", one, 2)
            for other in (0, 1):
                self.told(undone(kind[2], one, other)[0], own_deed, kind, "over", one, other)

    def test_over_where_nought_alone_spoils_its_column(self):
        # By times all by NOUGHT is 0, by the others each comes once; with another NOUGHT there is no over.
        for change, has in (((0, 1, 2), True), ((1, 0, 2), False), ((2, 1, 0), False)):
            kind = ("own", turned(THREES, change), TIMES)
            for one, other in product(range(3), repeat=2):
                if not has:
                    self.refused(NoDeed, own_deed, kind, "over", one, other)
                elif other == 0:
                    self.refused(ByNought, own_deed, kind, "over", one, other)
                else:
                    self.told(one * other % 3, own_deed, kind, "over", one, other)


class GroupsAndEvenOnes(Case):
    def test_all(self):
        for kind in some_kinds():
            _, plus, times = kind
            numbers = range(len(plus))
            triples = product(numbers, repeat=3)
            has_less = all(sorted(row[place] for row in plus) == list(numbers) for place in numbers)
            joined = all(plus[plus[x][y]][z] == plus[x][plus[y][z]] for x, y, z in triples)
            self.told(still(plus) is not None and has_less and joined, is_group, kind)
            self.told(all(table[x][y] == table[y][x] for table in (plus, times) for x in numbers for y in numbers),
                      is_even, kind)

    def test_put_together_in_another_way(self):
        # A loop of five: a NOUGHT, and less, but 1 and 1 and 2 tell otherwise.
        loop = ((0, 1, 2, 3, 4), (1, 0, 3, 4, 2), (2, 4, 0, 1, 3), (3, 2, 4, 0, 1), (4, 3, 1, 2, 0))
        zeros = ((0,) * 5,) * 5
        self.told(0, nought_of, ("own", loop, zeros))
        self.told(1, own_deed, ("own", loop, zeros), "less", 0, 1)
        self.told(False, is_group, ("own", loop, zeros))
        self.told(False, is_even, ("own", loop, zeros))
        self.told(True, is_group, ("own", rest_tables(5)[0], loop))
        self.told(False, is_even, ("own", rest_tables(5)[0], loop))

    def test_a_group_that_is_not_even(self):
        # The six ways to put three things in another order.
        orders = sorted([(x, y, z) for x, y, z in product(range(3), repeat=3) if len({x, y, z}) == 3])
        table = tuple(tuple(orders.index(tuple(one[place] for place in other)) for other in orders) for one in orders)
        kind = ("own", table, rest_tables(6)[1])
        self.told(True, is_group, kind)
        self.told(False, is_even, kind)

    def test_no_groups(self):
        for table in (LEFT, RIGHT, LESS, TIMES):
            self.told(False, is_group, ("own", table, TIMES))

    def test_even_needs_both_tables(self):
        self.told(True, is_even, ("own", THREES, TIMES))
        self.told(True, is_even, OWN_FOUR)
        self.told(False, is_even, ("own", LEFT, TIMES))
        self.told(False, is_even, ("own", THREES, LESS))


class Refusals(DeedCase):
    def test_other_kinds(self):
        self.refuses_kinds(own_deed, ("own",), [("plus", 1, 1), ("foo", None, None), ("over", 1, 0)])
        for function in (nought_of, one_of, is_group, is_even):
            self.refuses_kinds(function, ("own",), [()])
            self.refused(BadKind, function, ("own", THREES, rest_tables(4)[1]))
            self.refused(BadKind, function, ("own", THREES))

    def test_worths_and_deeds(self):
        for kind in (OWN_THREE, OWN_SIX):
            self.refuses_deeds(own_deed, kind, 1, lambda thing: is_good(kind, thing))
            for worth in (len(kind[1]), -1, True, False, (1,), [1]):
                for deed in DEEDS:
                    self.refused(BadWorth, own_deed, kind, deed, worth, 0)
                    self.refused(BadWorth, own_deed, kind, deed, 0, worth)

    def test_refusals_in_order(self):
        self.refused(BadKind, own_deed, ("own", THREES, ((0,),)), "foo", 9, 9)
        self.refused(BadWorth, own_deed, OWN_THREE, "foo", 3, 0)
        self.refused(BadWorth, own_deed, OWN_SIX, "over", 0, 6)
        self.refused(NoDeed, own_deed, OWN_SIX, "over", 1, 0)
        self.refused(NoDeed, own_deed, OWN_FOUR, "by", 1, 0)
