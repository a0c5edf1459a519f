"""Which kinds of a tower are above which, and the ways between them: of towers and numbers known to be good.

Told are leads, a list of the steps from each kind, and above, a list of numbers: bit J of above[I] is 1 where J is
above I.
"""

from towerwise.errors import NoKind, TwoKinds

# The bit of a kind that isn't done yet: it is seen above some kind just where there is a RING.
RINGED = 1 << 8


def leads_of(tower):
    """List for each kind the steps from it, in order."""
    leads = [[] for _ in tower[0]]
    for step in tower[1]:
        leads[step[0]].append(step)
    return leads


def all_above(leads):
    """List for each kind, in bits, those above it."""
    above = [0] * len(leads)
    for number in range(len(leads)):
        if not above[number]:
            _reach(leads, above, number)
    return above


def _reach(leads, above, number):
    """Put in what is above a kind, and above all to which steps lead from it."""
    above[number] = RINGED
    bits = 1 << number
    for step in leads[number]:
        other = step[1]
        if not above[other]:
            _reach(leads, above, other)
        bits |= above[other]
    above[number] = bits


def numbers_in(above, bits):
    """List, rising, the kinds whose bits these are."""
    return [number for number in range(len(above)) if bits >> number & 1]


def ways_between(leads, above, one, other):
    """List all ways from one to other, in order: no tower has a ring, so this ends, and the first ways come first."""
    if one == other:
        return [(other,)]
    return [(one,) + way for step in leads[one] if above[step[1]] >> other & 1
            for way in ways_between(leads, above, step[1], other)]


def first_steps(leads, above, one, other):
    """List the steps of the FIRST way from one to other, which is above it."""
    found = []
    while one != other:
        for step in leads[one]:
            if above[step[1]] >> other & 1:
                found.append(step)
                one = step[1]
                break
    return found


def way_along(one, steps):
    """Tell the way that goes from a kind along steps."""
    return (one,) + tuple([step[1] for step in steps])


def least_in(above, bits):
    """Tell the LEAST of some kinds, told in bits, None without one."""
    for number, beyond in enumerate(above):
        if beyond & bits == bits and bits >> number & 1:
            return number
    return None


def least_among(above, bits):
    """Tell the LEAST of some kinds; refuse with NoKind where there are none, with TwoKinds where none is the LEAST."""
    if not bits:
        raise NoKind("there is no kind for this")
    least = least_in(above, bits)
    if least is None:
        numbers = numbers_in(above, bits)
        lowest = [number for number in numbers if not _is_led_to(above, numbers, number)]
        raise TwoKinds(lowest[0], lowest[1])
    return least


def _is_led_to(above, numbers, number):
    """Tell whether ways lead to a kind from another one of these."""
    return any([other != number and above[other] >> number & 1 for other in numbers])


def is_ringed(above):
    """Tell whether, by what all_above listed, there is a RING."""
    return max(above) >= RINGED
