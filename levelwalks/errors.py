"""The errors that this package raises."""

from levelwalks.basics import frozen


class WalkError(ValueError):
    """What all errors of this package are."""


class BadSizes(WalkError):
    """The sizes of a table are not sizes."""


class BadForm(WalkError):
    """There is no such form, or it does not belong to the table or access."""


class OutOfRange(WalkError):
    """These are not coordinates of the table."""

    def __init__(self, at):
        self.at = frozen(at)


class TooLarge(WalkError):
    """The value at these coordinates is large."""

    def __init__(self, at):
        self.at = frozen(at)


class NoWalk(WalkError):
    """A hashed level is walked."""

    def __init__(self, level):
        self.level = frozen(level)


class NoLocate(WalkError):
    """A packed level is searched."""

    def __init__(self, level):
        self.level = frozen(level)


class BadText(WalkError):
    """A text of a table or of a program is wrong from this line on."""

    def __init__(self, line):
        self.line = frozen(line)


class BadExpression(WalkError):
    """A text of an expression or of a statement is wrong from this index on."""

    def __init__(self, at):
        self.at = frozen(at)


class BadNumber(WalkError):
    """A divisor, an exponent or a shift is not allowed."""

    def __init__(self, n):
        self.n = frozen(n)


class RepeatedLetter(WalkError):
    """A letter occurs twice in an access."""

    def __init__(self, letter):
        self.letter = frozen(letter)


class NotAnAccess(WalkError):
    """An access is expected."""


class NotAnExpression(WalkError):
    """A gain or a loss is used as an expression."""


class NoTable(WalkError):
    """There is no table with this name."""

    def __init__(self, name):
        self.name = frozen(name)


class TableExists(WalkError):
    """There is a table with this name already."""

    def __init__(self, name):
        self.name = frozen(name)


class RankClash(WalkError):
    """A table has another number of axes than an access has letters."""

    def __init__(self, name):
        self.name = frozen(name)


class SizeClash(WalkError):
    """A letter stands at axes of unlike sizes."""

    def __init__(self, letter):
        self.letter = frozen(letter)


class Illegal(WalkError):
    """A program is not legal from the node at this place on."""

    def __init__(self, place):
        self.place = frozen(place)


class Inconsistent(WalkError):
    """A pattern is not consistent."""


class NotPolynomial(WalkError):
    """An expression is not a polynomial."""


class NotComparable(WalkError):
    """Programs or statements have unlike letters or targets."""


class Ring(WalkError):
    """No order fits, because these steps lead in a ring."""

    def __init__(self, steps):
        self.steps = frozen(steps)


class Parted(WalkError):
    """An offered program is not right."""

    def __init__(self, verdict):
        self.verdict = frozen(verdict)


class NoBetter(WalkError):
    """An offered program is not better."""

    def __init__(self, verdict):
        self.verdict = frozen(verdict)


class KeptTable(WalkError):
    """A kept table would be changed or kept again."""

    def __init__(self, name):
        self.name = frozen(name)


class NotKeepable(WalkError):
    """A statement with another sign than = cannot be kept."""


class KeepRing(WalkError):
    """A statement cannot be kept, because this table is or needs its target."""

    def __init__(self, name):
        self.name = frozen(name)


class KeptFailed(WalkError):
    """A value of a kept table became large."""

    def __init__(self, name):
        self.name = frozen(name)
