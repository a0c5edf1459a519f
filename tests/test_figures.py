"""[20] Numbers ROUNDED to so many figures: towerwise.figures."""

from decimal import ROUND_HALF_UP, Context, Decimal
from fractions import Fraction

from tests.test_worths import is_good, is_share
from tests.things import Case, whole
from towerwise.errors import BadNumber, BadWorth, TooGreat
from towerwise.figures import is_tie, rounded, value_of
from towerwise.worths import is_worth

SMALL = sorted({Fraction(above, below) for above in range(-130, 131) for below in (1, 2, 3, 7, 8, 10, 40, 999)})
HARD = [Fraction(99949, 100), Fraction(9995, 10), Fraction(99951, 100), Fraction(2 * 10 ** 60 - 1, 2), Fraction(1, 3),
        Fraction(-2, 3), Fraction(10 ** 60 - 1, 10 ** 60), Fraction(10 ** 60 + 1, 10 ** 60), Fraction(1, 10 ** 60),
        Fraction(-10 ** 60, 7), Fraction(3 ** 600, 2 ** 900), Fraction(2 ** 1000, 1), Fraction(-1, 3 ** 700),
        Fraction(10 ** 300 - 1, 10 ** 299), Fraction(15, 10 ** 200), Fraction(25 * 10 ** 200)]


def told_as(number):
    """Tell a Fraction of Python's as a FRACTION."""
    return (number.numerator, number.denominator)


def by_decimals(figures, number):
    """Round a Fraction by Python's decimals, half a step away from nought."""
    if number == 0:
        return (0, 0)
    context = Context(prec=figures, rounding=ROUND_HALF_UP, Emin=-99999, Emax=99999)
    told = context.divide(Decimal(number.numerator), Decimal(number.denominator)).normalize(context)
    front = int("".join(str(figure) for figure in told.as_tuple().digits))
    return (-front if number < 0 else front, told.as_tuple().exponent)


def value(front, power):
    """Tell a worth's number as a Fraction."""
    return front * Fraction(10) ** power


def nearest(figures, number):
    """List all numbers of so many figures that are nearest to a Fraction beside 0.0001 to 10000."""
    found = {value(front, power) for front in range(1 - 10 ** figures, 10 ** figures) for power in range(-6, 6)}
    near = min(abs(number - one) for one in found)
    return [one for one in found if abs(number - one) == near]


class Rounded(Case):
    def holds(self, wanted, figures, number):
        """It is rounded so, either side of nought."""
        self.told(wanted, rounded, figures, told_as(number))
        self.told((-wanted[0], wanted[1]), rounded, figures, told_as(-number))

    def test_by_hand(self):
        for figures, number, wanted in (
                (1, Fraction(7), (7, 0)), (1, Fraction(12), (1, 1)), (1, Fraction(15), (2, 1)),
                (1, Fraction(14), (1, 1)), (1, Fraction(149, 10), (1, 1)), (2, Fraction(125), (13, 1)),
                (2, Fraction(124), (12, 1)), (2, Fraction(135), (14, 1)), (3, Fraction(1235), (124, 1)),
                (3, Fraction(1245), (125, 1)), (1, Fraction(1, 3), (3, -1)), (2, Fraction(2, 3), (67, -2)),
                (3, Fraction(1, 7), (143, -3)), (1, Fraction(1, 8), (1, -1)), (2, Fraction(1, 8), (13, -2)),
                (3, Fraction(1, 8), (125, -3)), (1, Fraction(95), (1, 2)), (1, Fraction(94), (9, 1)),
                (2, Fraction(995), (1, 3)), (2, Fraction(994), (99, 1)), (3, Fraction(9995), (1, 4)),
                (3, Fraction(99949, 10), (999, 1)), (1, Fraction(25), (3, 1)), (1, Fraction(5, 2), (3, 0)),
                (1, Fraction(1, 4), (3, -1)), (1, Fraction(10), (1, 1)), (2, Fraction(100), (1, 2)),
                (3, Fraction(120), (12, 1)), (3, Fraction(1000), (1, 3)), (3, Fraction(1001), (1, 3))):
            self.holds(wanted, figures, number)

    def test_nought(self):
        for figures in (1, 2, 3):
            self.told((0, 0), rounded, figures, (0, 1))

    def test_small_numbers(self):
        for figures in (1, 2, 3):
            for number in SMALL:
                self.told(by_decimals(figures, number), rounded, figures, told_as(number))

    def test_hard_numbers(self):
        for figures in (1, 2, 3):
            for number in HARD:
                self.holds(by_decimals(figures, number), figures, number)

    def test_nearest_of_all(self):
        for figures in (1, 2):
            for number in SMALL[::37]:
                farther = max(nearest(figures, number), key=abs)
                front, power = rounded(figures, told_as(number))
                self.assertEqual(value(front, power), farther)

    def test_beside_powers_of_ten(self):
        for figures in (1, 2, 3):
            for power in (-60, -3, -1, 0, 1, 2, 5, 60):
                ten = value(1, power)
                half = value(5, power - figures - 1)
                tiny = value(1, power - 40)
                self.holds((1, power), figures, ten)
                self.holds((1, power), figures, ten - tiny)
                self.holds((1, power), figures, ten + tiny)
                self.holds((1, power), figures, ten - half)
                self.holds((10 ** figures - 1, power - figures), figures, ten - half - tiny)
                up = (10 ** (figures - 1) + 1, power - figures + 1)
                self.holds((1, power), figures, ten + 10 * half - tiny)
                self.holds(up, figures, ten + 10 * half)

    def test_halves_go_away_from_nought(self):
        for front in range(1, 1000):
            number = Fraction(2 * front + 1, 2)
            for figures in (1, 2, 3):
                if 10 ** (figures - 1) <= front < 10 ** figures:
                    self.holds(by_decimals(3, Fraction(front + 1)), figures, number)

    def test_what_is_told_is_a_worth(self):
        for figures in (1, 2, 3):
            for number in SMALL[::5] + HARD:
                self.told(True, is_worth, ("about", figures), rounded(figures, told_as(number)))

    def test_rounded_again_it_stays(self):
        for figures in (1, 2, 3):
            for number in SMALL + HARD:
                worth = rounded(figures, told_as(number))
                for more in range(figures, 4):
                    self.told(worth, rounded, more, value_of(worth))

    def test_worths_stay(self):
        for figures in (1, 2, 3):
            for front in list(range(1, 13)) + [99, 101, 505, 998, 999]:
                for power in (-400, -399, -7, 0, 1, 12, 400):
                    if front % 10 != 0 and front < 10 ** figures:
                        for more in range(figures, 4):
                            self.holds((front, power), more, value(front, power))


class PowersTooGreat(Case):
    def either(self, wanted, figures, number):
        """It is rounded so, either side of nought; None: it is TooGreat, also to be asked for a tie."""
        if wanted is None:
            for sign in (1, -1):
                self.refused(TooGreat, rounded, figures, told_as(sign * number))
                self.refused(TooGreat, is_tie, figures, told_as(sign * number))
        else:
            self.told(wanted, rounded, figures, told_as(number))
            self.told((-wanted[0], wanted[1]), rounded, figures, told_as(-number))
            self.assertIn(is_tie(figures, told_as(number)), (True, False))

    def test_great_ones(self):
        for figures in (1, 2, 3):
            most = 10 ** figures - 1
            self.either((1, 400), figures, value(1, 400))
            self.either((most, 400), figures, value(most, 400))
            self.either((most, 400), figures, value(10 * most + 4, 399))
            self.either(None, figures, value(10 * most + 5, 399))
            self.either(None, figures, value(1, 400 + figures))
            self.either(None, figures, value(1, 401))
            self.either(None, figures, value(1, 402))
            self.either(None, figures, value(1, 1200))
            self.either((9, 399), figures, value(9, 399))
        self.either((9, 400), 1, value(94, 399))
        self.either(None, 1, value(95, 399))
        self.either((95, 399), 2, value(95, 399))
        self.either((95, 400), 2, value(95, 400))
        self.either(None, 1, value(11, 400))
        self.either((11, 400), 2, value(11, 400))
        self.either(None, 2, value(101, 400))
        self.either((101, 400), 3, value(101, 400))

    def test_small_ones(self):
        for figures in (1, 2, 3):
            self.either((1, -400), figures, value(1, -400))
            self.either((9, -400), figures, value(9, -400))
            self.either((1, -399), figures, value(1, -399))
            self.either(None, figures, value(1, -401))
            self.either(None, figures, value(9, -401))
            self.either(None, figures, value(5, -401))
            self.either(None, figures, value(1, -405))
            self.either(None, figures, value(1, -1200))
        self.either((2, -400), 1, value(15, -401))
        self.either((1, -400), 1, value(14, -401))
        self.either(None, 2, value(15, -401))
        self.either(None, 3, value(15, -401))
        self.either((1, -400), 1, value(95, -402))
        self.either(None, 1, value(94, -402))
        self.either((1, -400), 2, value(995, -403))
        self.either(None, 2, value(994, -403))
        self.either((1, -400), 3, value(9995, -404))
        self.either((12, -400), 2, value(12, -400))
        self.either((13, -400), 2, value(125, -401))
        self.either(None, 3, value(125, -401))

    def test_very_many_figures(self):
        self.told((1, 0), rounded, 3, (10 ** 3990 + 1, 10 ** 3990))
        self.told((-333, -3), rounded, 3, (-10 ** 3990, 3 * 10 ** 3990 + 1))
        self.refused(TooGreat, rounded, 3, (10 ** 3999, 1))
        self.refused(TooGreat, rounded, 1, (-1, 10 ** 3999))


class EachPower(Case):
    """Each power from -400 to 400, one front each, either side of nought; and just beyond."""

    def fronts(self, figures, power):
        """Tell a front of so many figures that is another one with each power, and no multiple of 10."""
        front = 10 ** (figures - 1) + (power + 400) * 7 % (9 * 10 ** (figures - 1))
        return front + 1 if front % 10 == 0 else front

    def test_worths_stay_and_have_their_value(self):
        for power in range(-400, 401):
            for figures in (1, 2, 3):
                for sign in (1, -1):
                    worth = (sign * self.fronts(figures, power), power)
                    number = told_as(value(*worth))
                    self.told(number, value_of, worth)
                    self.told(worth, rounded, figures, number)
                    self.told(worth, rounded, 3, number)
                    self.told(False, is_tie, figures, number)

    def test_ties(self):
        for power in range(-400, 401):
            for figures in (1, 2, 3):
                front = self.fronts(figures, power)
                number = value(2 * front + 1, power) / 2
                wanted = by_decimals(figures, number)
                self.assertEqual(value(*wanted), value(front + 1, power))
                for sign in (1, -1):
                    if wanted[1] > 400:
                        self.refused(TooGreat, rounded, figures, told_as(sign * number))
                        self.refused(TooGreat, is_tie, figures, told_as(sign * number))
                    else:
                        self.told((sign * wanted[0], wanted[1]), rounded, figures, told_as(sign * number))
                        self.told(True, is_tie, figures, told_as(sign * number))

    def test_between_worths(self):
        for power in range(-400, 400):
            for figures in (1, 2, 3):
                front = self.fronts(figures, power)
                for below in (3, 7, 10 ** 40 + 1):
                    number = value(front, power) + value(1, power) / below
                    self.told((front, power), rounded, figures, told_as(number))
                    self.told(False, is_tie, figures, told_as(number))

    def test_just_beyond(self):
        for figures in (1, 2, 3):
            for power in (401, 402, 403, -401, -402, -403):
                for front in (1, 5, 9, 10 ** figures - 1):
                    number = value(front, power)
                    self.refused(BadWorth, value_of, (front, power))
                    self.refused(BadWorth, value_of, (-front, power))
                    if by_decimals(figures, number)[1] in (400, -400):
                        self.told(by_decimals(figures, number), rounded, figures, told_as(number))
                    else:
                        self.refused(TooGreat, rounded, figures, told_as(number))
                        self.refused(TooGreat, is_tie, figures, told_as(-number))

    def test_beside_each_power_of_ten(self):
        for power in range(-396, 397):
            for figures in (1, 2, 3):
                ten, tiny = value(1, power), value(1, power - 30)
                for number in (ten - tiny, ten, ten + tiny):
                    self.told((1, power), rounded, figures, told_as(number))
                    self.told(False, is_tie, figures, told_as(number))
                half = value(5, power - figures - 1)
                self.told((1, power), rounded, figures, told_as(ten - half))
                self.told(True, is_tie, figures, told_as(ten - half))
                self.told((10 ** figures - 1, power - figures), rounded, figures, told_as(ten - half - tiny))

    def test_each_power_of_two_and_beside_it(self):
        for power in range(-1320, 1321, 3):
            number = Fraction(2) ** power
            for near in (number, number * Fraction(2 ** 50 - 1, 2 ** 50), number * Fraction(2 ** 50 + 1, 2 ** 50)):
                for figures in (1, 3):
                    self.told(by_decimals(figures, near), rounded, figures, told_as(near))


class Ties(Case):
    def test_by_hand(self):
        for figures, number, wanted in (
                (1, Fraction(15), True), (1, Fraction(14), False), (1, Fraction(16), False),
                (1, Fraction(95), True), (1, Fraction(150), True), (1, Fraction(151), False),
                (1, Fraction(149), False), (2, Fraction(15), False),
                (2, Fraction(125), True), (2, Fraction(995), True), (3, Fraction(995), False),
                (3, Fraction(9995), True), (1, Fraction(5, 2), True), (2, Fraction(5, 2), False),
                (1, Fraction(1, 4), True), (1, Fraction(1, 3), False), (1, Fraction(5), False),
                (1, Fraction(10), False), (1, Fraction(1, 8), False),
                (2, Fraction(1, 8), True), (3, Fraction(1, 8), False), (3, Fraction(1, 16), False),
                (3, Fraction(1, 32), True), (1, Fraction(1, 2), False)):
            self.told(wanted, is_tie, figures, told_as(number))
            self.told(wanted, is_tie, figures, told_as(-number))

    def test_nought(self):
        for figures in (1, 2, 3):
            self.told(False, is_tie, figures, (0, 1))

    def test_two_as_near(self):
        for figures in (1, 2):
            for number in SMALL[::37]:
                self.told(len(nearest(figures, number)) == 2, is_tie, figures, told_as(number))

    def test_a_tie_ends_just_beside_it(self):
        for figures in (1, 2, 3):
            for front in (10 ** (figures - 1), 10 ** figures - 1):
                for power in (-300, -2, 0, 3, 300):
                    number, tiny = value(2 * front + 1, power) / 2, value(1, power - 70)
                    for sign in (1, -1):
                        self.told(True, is_tie, figures, told_as(sign * number))
                        self.told(False, is_tie, figures, told_as(sign * (number + tiny)))
                        self.told(False, is_tie, figures, told_as(sign * (number - tiny)))


class ValueOf(Case):
    def test_values(self):
        for front in [0, 1, -1, 2, 5, 12, -15, 25, 125, 375, -625, 999, -999, 64, 128, 512]:
            for power in (0, 1, -1, -2, -3, -5, 7, 60, -60, 400, -400):
                if front != 0 or power == 0:
                    self.told(told_as(value(front, power)), value_of, (front, power))

    def test_by_hand(self):
        for worth, wanted in (((0, 0), (0, 1)), ((25, -2), (1, 4)), ((-5, -1), (-1, 2)), ((3, 2), (300, 1)),
                              ((125, -3), (1, 8)), ((7, -1), (7, 10)), ((1, -400), (1, 10 ** 400))):
            self.told(wanted, value_of, worth)

    def test_no_worths(self):
        self.refuses_others(BadWorth, value_of, lambda thing: is_good(("about", 3), thing))
        for thing in ((10, 0), (1000, 0), (1001, 0), (-1001, 0), (1, 401), (1, -401), (0, 1), (True, 0), (1, True),
                      [1, 0], (1, 0, 0), (1,), 1):
            self.refused(BadWorth, value_of, thing)


class Refusals(Case):
    def test_no_count_of_figures(self):
        for function in (rounded, is_tie):
            for number in ((1, 3), (0, 1), None, (2, 4), (10 ** 500, 1), True):
                for figures in (0, 4, -1, True, False, None, "1", (1,), [1], 10 ** 60):
                    self.refused(BadNumber, function, figures, number)
            self.refuses_others(BadNumber, function, lambda thing: whole(thing) and 1 <= thing <= 3, behind=((1, 3),))

    def test_no_fraction(self):
        for function in (rounded, is_tie):
            for figures in (1, 2, 3):
                self.refuses_others(BadWorth, function, is_share, ahead=(figures,))
                for number in (5, True, (2, 4), (1, 0), (True, 1), [1, 3], (1, -3), "1/3", (10 ** 500, 10)):
                    self.refused(BadWorth, function, figures, number)

    def test_refusals_in_order(self):
        for function in (rounded, is_tie):
            self.refused(BadNumber, function, 0, (2, 4))
            self.refused(BadNumber, function, 4, (10 ** 500, 1))
            self.refused(BadWorth, function, 1, (10 ** 500, 10))
            self.refused(TooGreat, function, 1, (10 ** 500, 1))
