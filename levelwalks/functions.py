"""The functions that make the kinds of expressions for which there is no operator."""

from levelwalks.expressions import joined


def greater(x, y):
    """Return the expression of the greater of two values."""
    return joined("greater", x, y)


def lesser(x, y):
    """Return the expression of the lesser of two values."""
    return joined("lesser", x, y)


def below(x, y):
    """Return the expression that is 1 where x < y, else 0."""
    return joined("below", x, y)


def at_most(x, y):
    """Return the expression that is 1 where x <= y, else 0."""
    return joined("at_most", x, y)


def equal(x, y):
    """Return the expression that is 1 where x == y, else 0."""
    return joined("equal", x, y)


def unequal(x, y):
    """Return the expression that is 1 where x != y, else 0."""
    return joined("unequal", x, y)
