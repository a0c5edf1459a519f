"""FRACTIONS: tuples (above, below) told shortest, and what is done with them."""

from math import gcd

from towerwise.errors import BadNumber, ByNought
from towerwise.words import is_whole

# Ten to the power 300: the language lets no exponent be beyond 64.
GREATEST = (10 ** 60) ** 5
# Ten to the powers 0, 64, 128 .. 448: nobody needs to come there step by step.
BLOCKS = (1, 10 ** 64, (10 ** 64) ** 2, (10 ** 64) ** 3, (10 ** 64) ** 4, (10 ** 64) ** 5, (10 ** 64) ** 6,
          (10 ** 64) ** 7)
NOUGHT = (0, 1)


def is_fraction(thing):
    """Tell whether thing is a FRACTION."""
    if not isinstance(thing, tuple) or len(thing) != 2:
        return False
    above, below = thing
    return is_whole(above) and is_whole(below) and below >= 1 and gcd(above, below) == 1


def fraction(above, below):
    """Tell the FRACTION of two whole numbers of any sign."""
    if not is_whole(above) or not is_whole(below) or below == 0:
        raise BadNumber("a fraction is of two whole numbers, the one below not nought")
    return shortest(above, below)


def shortest(above, below):
    """Tell the same of two whole numbers that are known to be such, the one below not nought."""
    both = gcd(above, below)
    if below < 0:
        both = -both
    if both == 1:
        return (above, below)
    return (above // both, below // both)


def sum_of(one, other):
    """Tell one plus other."""
    return shortest(one[0] * other[1] + other[0] * one[1], one[1] * other[1])


def difference_of(one, other):
    """Tell one less other."""
    return shortest(one[0] * other[1] - other[0] * one[1], one[1] * other[1])


def product_of(one, other):
    """Tell one times other."""
    return shortest(one[0] * other[0], one[1] * other[1])


def quotient_of(one, other):
    """Tell one over other."""
    if other[0] == 0:
        raise ByNought("over by nought")
    return shortest(one[0] * other[1], one[1] * other[0])


def fraction_deed(deed, one, other):
    """Tell what comes of two FRACTIONS by the word of a deed."""
    if deed == "plus":
        return sum_of(one, other)
    if deed == "less":
        return difference_of(one, other)
    if deed == "times":
        return product_of(one, other)
    return quotient_of(one, other)


def is_less(one, other):
    """Tell whether one is less than other."""
    return one[0] * other[1] < other[0] * one[1]


def compared(one, other):
    """Tell -1, 0 or 1 where one is less than other, the same, greater."""
    left, right = one[0] * other[1], other[0] * one[1]
    if left < right:
        return -1
    return 1 if left > right else 0


def ends_of(parts):
    """Tell (least, greatest) of a list of FRACTIONS, one at least."""
    low = high = parts[0]
    for part in parts:
        if is_less(part, low):
            low = part
        if is_less(high, part):
            high = part
    return (low, high)


def is_great(one):
    """Tell whether a FRACTION is TOO GREAT."""
    return abs(one[0]) > GREATEST or one[1] > GREATEST


def ten_to(many):
    """Tell ten to the power many, from 0 on: the language lets no variable be an exponent but what is left by 64."""
    told = 10 ** (int(many) % 64)
    blocks = many // 64
    while blocks > 7:
        told *= BLOCKS[7]
        blocks -= 7
    return told * BLOCKS[blocks]
