"""[11] Primes, and the backs of rests: towerwise.backs."""

from tests.deedcase import DeedCase
from tests.things import Case, THINGS, whole
from towerwise.backs import back_of, is_prime, parted_noughts, units_of
from towerwise.errors import BadWorth, ByNought

PRIMES = (2, 3, 5, 7, 11, 13, 17, 19, 23, 29, 31, 37, 41, 43, 47, 53, 59, 61, 67, 71, 73, 79, 83, 89, 97)


class IsPrime(Case):
    def test_small_numbers(self):
        for number in range(-5, 131):
            self.told(number in PRIMES, is_prime, number)

    def test_larger_numbers(self):
        for number in (131, 997, 7919, -7, -97, 10 ** 60 + 7, 10 ** 3999):
            self.told(False, is_prime, number)

    def test_all_other_things(self):
        for thing in THINGS:
            self.told(whole(thing) and thing in PRIMES, is_prime, thing)


class Backs(DeedCase):
    def test_backs_of_all_rests(self):
        for many in range(2, 13):
            kind = ("rest", many)
            for worth in range(many):
                backs = [back for back in range(many) if (worth * back - 1) % many == 0]
                if backs:
                    self.told(backs[0], back_of, kind, worth)
                else:
                    self.refused(ByNought, back_of, kind, worth)

    def test_some_by_hand(self):
        for many, worth, back in ((2, 1, 1), (7, 3, 5), (8, 3, 3), (9, 2, 5), (11, 2, 6), (12, 7, 7), (10, 3, 7)):
            self.told(back, back_of, ("rest", many), worth)
        for many, worth in ((2, 0), (7, 0), (8, 2), (9, 3), (12, 10), (6, 4), (4, 2)):
            self.refused(ByNought, back_of, ("rest", many), worth)

    def test_units(self):
        wanted = {2: (1,), 3: (1, 2), 4: (1, 3), 5: (1, 2, 3, 4), 6: (1, 5), 7: (1, 2, 3, 4, 5, 6), 8: (1, 3, 5, 7),
                  9: (1, 2, 4, 5, 7, 8), 10: (1, 3, 7, 9), 11: (1, 2, 3, 4, 5, 6, 7, 8, 9, 10), 12: (1, 5, 7, 11)}
        for many in range(2, 13):
            self.told(wanted[many], units_of, ("rest", many))

    def test_parted_noughts(self):
        wanted = {4: [(2, 2)], 6: [(2, 3), (3, 4)], 8: [(2, 4), (4, 4), (4, 6)], 9: [(3, 3), (3, 6), (6, 6)],
                  10: [(2, 5), (4, 5), (5, 6), (5, 8)],
                  12: [(2, 6), (3, 4), (3, 8), (4, 6), (4, 9), (6, 6), (6, 8), (6, 10), (8, 9)]}
        for many in range(2, 13):
            self.told(wanted.get(many, []), parted_noughts, ("rest", many))

    def test_told_lists_are_the_askers_own(self):
        first = parted_noughts(("rest", 6))
        first.append((1, 1))
        first[0] = None
        self.told([(2, 3), (3, 4)], parted_noughts, ("rest", 6))
        parted_noughts(("rest", 7)).append((1, 1))
        self.told([], parted_noughts, ("rest", 7))

    def test_other_kinds(self):
        self.refuses_kinds(back_of, ("rest",), [(1,), (None,), (0,)])
        self.refuses_kinds(units_of, ("rest",), [()])
        self.refuses_kinds(parted_noughts, ("rest",), [()])

    def test_no_worths(self):
        for many in (2, 5, 12):
            self.refuses_others(BadWorth, back_of, lambda thing: whole(thing) and 0 <= thing < many,
                                ahead=(("rest", many),))
            for worth in (many, -1, True, False, (1, 1), "1"):
                self.refused(BadWorth, back_of, ("rest", many), worth)
