"""HOUSES: a tower that grows, and MIXED numbers by names."""

from towerwise.above import having
from towerwise.deeds import need_deed
from towerwise.errors import BadName, Lacking, NoKind, TwoKinds
from towerwise.likeness import likeness_at
from towerwise.mixed import deed_at, need_number_of
from towerwise.order import order_at
from towerwise.paths import least_among
from towerwise.towers import plan_of, with_kind, with_step
from towerwise.words import is_name

# What stands in a deed's place where the LEAST of all kinds above both is looked for.
MEETING = "meeting"


class House:
    """A tower and MIXED numbers by names; each LEAST kind is looked for once as long as the tower stays so."""

    def __init__(self, tower):
        self._plan = plan_of(tower)
        self._tower = tower
        self._numbers = {}
        self._leasts = {}
        self._looks = 0

    def kind(self, kind):
        """Put a kind more into the tower; tell its number."""
        self._grow(with_kind(self._tower, kind))
        return len(self._tower[0]) - 1

    def step(self, step):
        """Put a step more into the tower."""
        self._grow(with_step(self._tower, step))

    def _grow(self, tower):
        """Take a tower with a part more: what was kept of LEAST kinds may be otherwise now."""
        self._plan = plan_of(tower)
        self._tower = tower
        self._leasts = {}

    def tower(self):
        """Tell the tower as it is now."""
        return self._tower

    def name(self, name, number):
        """Give a name to a MIXED number."""
        if not is_name(name):
            raise BadName("this is no name")
        need_number_of(self._tower, number)
        self._numbers[name] = number

    def names(self):
        """List, rising, the names that are given."""
        return sorted(self._numbers)

    def number(self, name):
        """Tell the MIXED number of a name."""
        if not isinstance(name, str) or name not in self._numbers:
            raise Lacking("no number has this name")
        return self._numbers[name]

    def deed(self, deed, one, other):
        """Tell the MIXED number that comes of those of two names."""
        left, right = self.number(one), self.number(other)
        need_deed(deed)
        top = self._least(deed, left[0], right[0])
        leads, above = self._plan
        return deed_at(self._tower[0], leads, above, top, deed, left, right)

    def likeness(self, one, other):
        """Tell the LIKENESS of the numbers of two names."""
        left, right = self.number(one), self.number(other)
        leads, above = self._plan
        return likeness_at(self._tower[0], leads, above, self._meeting(left[0], right[0]), left, right)

    def order(self, one, other):
        """Tell the ORDER of the numbers of two names."""
        left, right = self.number(one), self.number(other)
        leads, above = self._plan
        return order_at(self._tower[0], leads, above, self._meeting(left[0], right[0]), left, right)

    def _meeting(self, one, other):
        """Tell the LEAST of all kinds above both, None without one."""
        try:
            return self._least(MEETING, one, other)
        except (NoKind, TwoKinds):
            return None

    def _least(self, deed, one, other):
        """Tell the LEAST kind for a deed of two kinds; refuse with NoKind and TwoKinds, which are kept, too."""
        key = (deed, min(one, other), max(one, other))
        if key not in self._leasts:
            self._looks += 1
            self._leasts[key] = self._looked_for(deed, one, other)
        least, lowest = self._leasts[key]
        if least is not None:
            return least
        if lowest == ():
            raise NoKind("there is no kind for this")
        raise TwoKinds(lowest[0], lowest[1])

    def _looked_for(self, deed, one, other):
        """Tell (LEAST, LOWEST): the LEAST kind, or None and the two that TwoKinds tells, none of them for NoKind."""
        above = self._plan[1]
        both = above[one] & above[other] if deed == MEETING else having(self._tower[0], above, deed, one, other)
        try:
            return (least_among(above, both), ())
        except NoKind:
            return (None, ())
        except TwoKinds as caught:
            return (None, (caught.one, caught.other))

    def looked(self):
        """Tell how often a LEAST was looked for."""
        return self._looks

    def copied(self):
        """Tell a House alike, which goes its own way."""
        other = House(self._tower)
        other._numbers = dict(self._numbers)
        other._leasts = {key: self._leasts[key] for key in self._leasts}
        other._looks = self._looks
        return other
