"""Expressions: integers and accesses of tables, joined by operators that compute nothing."""

from levelwalks.basics import ascending, is_whole
from levelwalks.errors import BadNumber, NotAnAccess, NotAnExpression, RepeatedLetter

SIGNS = {
    "plus": "+",
    "minus": "-",
    "times": "*",
    "both": "&",
    "either": "|",
    "unlike": "^",
    "quotient": "//",
    "power": "**",
    "left": "<<",
    "right": ">>",
}
FRONT_SIGNS = {"negative": "-", "inverse": "~"}
# The least and the greatest integer that a kind allows behind its operand.
LIMITS = {"power": (1, 4), "left": (0, 60), "right": (0, 60)}
ASSIGNED_KINDS = ("gain", "loss")


def plus_value(x, y):
    return x + y


def minus_value(x, y):
    return x - y


def times_value(x, y):
    return x * y


def both_value(x, y):
    return x & y


def either_value(x, y):
    return x | y


def unlike_value(x, y):
    return x ^ y


def greater_value(x, y):
    return x if x >= y else y


def lesser_value(x, y):
    return x if x <= y else y


def below_value(x, y):
    return 1 if x < y else 0


def at_most_value(x, y):
    return 1 if x <= y else 0


def equal_value(x, y):
    return 1 if x == y else 0


def unequal_value(x, y):
    return 1 if x != y else 0


def quotient_value(x, n):
    return x // n


def remainder_value(x, n):
    return x % n


def power_value(x, n):
    worth = 1
    for factor in range(n):
        worth = worth * x
    return worth


def left_value(x, n):
    return x << n


def right_value(x, n):
    return x >> n


def negative_value(x):
    return -x


def inverse_value(x):
    return ~x


def absolute_value(x):
    return abs(x)


ACTIONS = {
    "plus": plus_value,
    "minus": minus_value,
    "times": times_value,
    "both": both_value,
    "either": either_value,
    "unlike": unlike_value,
    "greater": greater_value,
    "lesser": lesser_value,
    "below": below_value,
    "at_most": at_most_value,
    "equal": equal_value,
    "unequal": unequal_value,
    "quotient": quotient_value,
    "remainder": remainder_value,
    "power": power_value,
    "left": left_value,
    "right": right_value,
    "negative": negative_value,
    "inverse": inverse_value,
    "absolute": absolute_value,
}


class Expression:
    """A kind and its parts. It never changes, and its operators compute nothing."""

    def __init__(self, kind, parts):
        self.kind = kind
        self.parts = tuple(parts)
        operands = [part for part in parts if isinstance(part, Expression)]
        self.node_count = 1 + sum([operand.node_count for operand in operands])
        # The parts of an access are just the pair by which it is told.
        own = [self.parts] if kind == "access" else []
        self.accesses = tuple(own + [pair for operand in operands for pair in operand.accesses])
        self.letters = ascending([letter for pair in self.accesses for letter in pair[1]])

    @property
    def text(self):
        return text_of(self)

    def __add__(self, other):
        return joined("plus", self, other)

    def __radd__(self, other):
        return joined("plus", other, self)

    def __sub__(self, other):
        return joined("minus", self, other)

    def __rsub__(self, other):
        return joined("minus", other, self)

    def __mul__(self, other):
        return joined("times", self, other)

    def __rmul__(self, other):
        return joined("times", other, self)

    def __and__(self, other):
        return joined("both", self, other)

    def __rand__(self, other):
        return joined("both", other, self)

    def __or__(self, other):
        return joined("either", self, other)

    def __ror__(self, other):
        return joined("either", other, self)

    def __xor__(self, other):
        return joined("unlike", self, other)

    def __rxor__(self, other):
        return joined("unlike", other, self)

    def __floordiv__(self, other):
        return numbered("quotient", self, other)

    def __mod__(self, other):
        return numbered("remainder", self, other)

    def __pow__(self, other):
        return numbered("power", self, other)

    def __lshift__(self, other):
        return numbered("left", self, other)

    def __rshift__(self, other):
        return numbered("right", self, other)

    def __neg__(self):
        return Expression("negative", (operand_of(self),))

    def __pos__(self):
        return operand_of(self)

    def __invert__(self):
        return Expression("inverse", (operand_of(self),))

    def __abs__(self):
        return Expression("absolute", (operand_of(self),))

    def __iadd__(self, other):
        return assigned("gain", self, other)

    def __isub__(self, other):
        return assigned("loss", self, other)


def number(n):
    """Return the expression of an integer."""
    return Expression("number", (n,))


def access(name, *letters):
    """Return the access of a table at the coordinates that the letters get."""
    check_letters(letters)
    return Expression("access", (name, tuple(letters)))


def check_letters(letters):
    """Raise RepeatedLetter for the first letter that occurs earlier, too."""
    for at, letter in enumerate(letters):
        if letter in letters[:at]:
            raise RepeatedLetter(letter)


def is_access(x):
    """Tell whether a value is an access."""
    return isinstance(x, Expression) and x.kind == "access"


def check_expression(x):
    """Raise NotAnExpression for a gain or a loss."""
    if x.kind in ASSIGNED_KINDS:
        raise NotAnExpression()


def operand_of(x):
    """Return an operand as an expression: a plain integer is a number."""
    if is_whole(x):
        return number(x)
    if not isinstance(x, Expression):
        raise TypeError("an operand is an expression or an integer")
    check_expression(x)
    return x


def joined(kind, x, y):
    """Return the expression of a kind with two operands."""
    return Expression(kind, (operand_of(x), operand_of(y)))


def is_allowed(kind, n):
    """Tell whether an integer may stand behind the operand of a kind."""
    if kind in LIMITS:
        least, greatest = LIMITS[kind]
        return least <= n <= greatest
    return n != 0


def numbered(kind, x, n):
    """Return the expression of a kind with one operand and an integer behind it."""
    if not is_whole(n):
        operand_of(n)
        raise TypeError("an integer stands behind this operator")
    if not is_allowed(kind, n):
        raise BadNumber(n)
    return Expression(kind, (operand_of(x), n))


def assigned(kind, x, y):
    """Return the gain or loss of an access."""
    if not is_access(x):
        raise NotAnAccess()
    return Expression(kind, (x, operand_of(y)))


def part_text(part):
    """Return the text of an operand, or of the integer behind one."""
    if isinstance(part, Expression):
        return text_of(part)
    return str(part)


def text_of(expression):
    """Return the text of an expression."""
    kind = expression.kind
    if kind == "access":
        name, letters = expression.parts
        return name + "[" + ", ".join(letters) + "]"
    words = [part_text(part) for part in expression.parts]
    if kind == "number":
        return words[0]
    if kind in FRONT_SIGNS:
        return "(" + FRONT_SIGNS[kind] + words[0] + ")"
    if kind in SIGNS:
        return "(" + words[0] + " " + SIGNS[kind] + " " + words[1] + ")"
    return kind + "(" + ", ".join(words) + ")"


def part_value(part, values):
    """Return the value of an operand, or the integer behind one."""
    if isinstance(part, Expression):
        return value_of(part, values)
    return part


def value_of(expression, values):
    """Return the value of an expression, where `values` has the value of each access."""
    check_expression(expression)
    if expression.kind == "number":
        return expression.parts[0]
    if expression.kind == "access":
        return values[expression.parts]
    worths = [part_value(part, values) for part in expression.parts]
    action = ACTIONS[expression.kind]
    return action(*worths)
