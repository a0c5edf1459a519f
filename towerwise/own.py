"""Own kinds: two tables tell what plus and times do."""

from towerwise.errors import ByNought, NoDeed
from towerwise.kinds import need_kind_of
from towerwise.refusals import need_deed_of


def nought_of(kind):
    """Tell the NOUGHT of an own kind, None without one."""
    need_kind_of(kind, ("own",))
    return _still(kind[1])


def one_of(kind):
    """Tell the ONE of an own kind, None without one."""
    need_kind_of(kind, ("own",))
    return _still(kind[2])


def own_deed(kind, deed, one, other):
    """Tell the worth that comes of two worths of an own kind."""
    need_deed_of(kind, ("own",), deed, one, other)
    return own_done(kind, deed, one, other)


def own_done(kind, deed, one, other):
    """Tell the same of a kind, worths and one of the four deeds that are known to be good."""
    if not own_has(kind, deed):
        raise NoDeed("this kind hasn't this deed")
    if deed == "plus":
        return kind[1][one][other]
    if deed == "times":
        return kind[2][one][other]
    if deed == "less":
        return _column(kind[1], other).index(one)
    if other == _still(kind[1]):
        raise ByNought("over by nought")
    return _column(kind[2], other).index(one)


def own_has(kind, deed):
    """Tell whether an own kind, known to be one, has one of the four deeds."""
    if deed == "less":
        return all(_has_each_once(_column(kind[1], worth)) for worth in range(len(kind[1])))
    if deed == "over":
        return _has_over(kind)
    return True


def _has_over(kind):
    """Tell whether there is a NOUGHT, and by all other worths each one comes just once."""
    nought = _still(kind[1])
    if nought is None:
        return False
    others = [worth for worth in range(len(kind[1])) if worth != nought]
    return all(_has_each_once(_column(kind[2], worth)) for worth in others)


def _still(table):
    """Tell the one number by which, on either side, each number stays as it is, None without one."""
    numbers = list(range(len(table)))
    for worth in numbers:
        if list(table[worth]) == numbers and _column(table, worth) == numbers:
            return worth
    return None


def _column(table, place):
    """List what stands at one place of each row."""
    return [row[place] for row in table]


def _has_each_once(numbers):
    """Tell whether no number stands in a list twice: as it is as long as the table, then all do."""
    return len(set(numbers)) == len(numbers)


def is_group(kind):
    """Tell whether plus has a NOUGHT, is the same whichever two of three come first, and can be undone by less."""
    need_kind_of(kind, ("own",))
    return _still(kind[1]) is not None and own_has(kind, "less") and _is_put_together(kind[1])


def _is_put_together(table):
    """Tell whether of three numbers the same comes whichever two are put together first."""
    numbers = range(len(table))
    for one in numbers:
        for other in numbers:
            # One and other together ahead of all third ones, against one by what other and each third one tell.
            if table[table[one][other]] != tuple([table[one][last] for last in table[other]]):
                return False
    return True


def is_even(kind):
    """Tell whether plus and times are the same either way round."""
    need_kind_of(kind, ("own",))
    return _is_mirrored(kind[1]) and _is_mirrored(kind[2])


def _is_mirrored(table):
    """Tell whether each row is the column of its place."""
    return all(list(table[place]) == _column(table, place) for place in range(len(table)))
