"""The refusals: one error class for each kind of failure, all straight under TowerError."""


class TowerError(ValueError):
    """Any refusal."""


class BadKind(TowerError):
    """No KIND, or none of those that are wanted there."""


class BadWorth(TowerError):
    """No worth of the kind."""


class BadTower(TowerError):
    """No TOWER; place tells the first part that is wrong."""

    def __init__(self, place):
        self.place = place


class BadWay(TowerError):
    """No WAY, or no step, of the tower."""


class BadNumber(TowerError):
    """No number of those that are wanted there."""


class BadName(TowerError):
    """No NAME."""


class BadTerm(TowerError):
    """No TERM, or no EQUATION."""


class BadProgram(TowerError):
    """No PROGRAM; row is the number of the first wrong row, -1 of the whole."""

    def __init__(self, row):
        self.row = row


class BadPaper(TowerError):
    """No paper of what it is handed in for; place tells the first wrong row, () of the whole."""

    def __init__(self, place):
        self.place = place


class BadText(TowerError):
    """A text that isn't written so; line and word tell where it goes wrong, both from 0."""

    def __init__(self, line, word):
        self.line = line
        self.word = word


class BadLine(TowerError):
    """No line that a desk knows."""


class NoDeed(TowerError):
    """No deed, or none that the kind has."""


class NoKind(TowerError):
    """There is no kind in which it could be done."""


class TwoKinds(TowerError):
    """There is no LEAST kind: one and other are two numbers of kinds to which no other one leads."""

    def __init__(self, one, other):
        self.one = one
        self.other = other


class NoOrder(TowerError):
    """There is no order between the two."""


class ByNought(TowerError):
    """A division by nought."""


class Lacking(TowerError):
    """Something that is needed isn't there."""


class TooGreat(TowerError):
    """What comes is TOO GREAT."""
