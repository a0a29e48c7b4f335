"""Polynomials: sums of products of unknowns, with integer coefficients."""

from levelwalks.basics import ascending, is_whole
from levelwalks.errors import NotPolynomial
from levelwalks.expressions import ACTIONS, Expression, check_expression, text_of

JOINED_KINDS = ("plus", "minus", "times", "negative", "power")


def collected(pairs):
    """Return the terms of a sum of pairs (product, coefficient): each product once, none with 0."""
    totals = {}
    for product, coefficient in pairs:
        totals[product] = totals.get(product, 0) + coefficient
    return tuple([(product, totals[product]) for product in sorted(totals) if totals[product] != 0])


def product_value(product, values):
    """Return the value of a product of unknowns."""
    worth = 1
    for name in product:
        worth = worth * values[name]
    return worth


class Polynomial:
    """A sum of terms, each a product of unknowns with a coefficient. It never changes."""

    def __init__(self, pairs):
        self.terms = collected(pairs)

    @classmethod
    def constant(cls, n):
        """Return the polynomial of an integer."""
        return Polynomial([((), n)])

    @classmethod
    def unknown(cls, name):
        """Return the polynomial of one unknown."""
        return Polynomial([((name,), 1)])

    def without(self, names):
        """Return the polynomial of the terms that contain none of these unknowns."""
        left_out = {name: True for name in names}
        return Polynomial([term for term in self.terms if not any([name in left_out for name in term[0]])])

    def __call__(self, values):
        return sum([coefficient * product_value(product, values) for product, coefficient in self.terms])

    def __add__(self, other):
        second = operand_of(other)
        if second is None:
            return NotImplemented
        return Polynomial(self.terms + second.terms)

    def __radd__(self, other):
        return self + other

    def __sub__(self, other):
        second = operand_of(other)
        if second is None:
            return NotImplemented
        return self + -second

    def __rsub__(self, other):
        return -self + other

    def __mul__(self, other):
        second = operand_of(other)
        if second is None:
            return NotImplemented
        return Polynomial([
            (tuple(sorted(product + factors)), coefficient * times)
            for product, coefficient in self.terms
            for factors, times in second.terms
        ])

    def __rmul__(self, other):
        return self * other

    def __neg__(self):
        return Polynomial([(product, -coefficient) for product, coefficient in self.terms])

    def __pow__(self, other):
        worth = Polynomial.constant(1)
        for factor in range(other):
            worth = worth * self
        return worth

    def __eq__(self, other):
        if not isinstance(other, Polynomial):
            return NotImplemented
        return self.terms == other.terms

    # Each class that compares has an order by the same key, so that sorted() means the same everywhere.
    def __lt__(self, other):
        if not isinstance(other, Polynomial):
            return NotImplemented
        return self.terms < other.terms


def operand_of(x):
    """Return an operand as a polynomial, or None if it is none."""
    if is_whole(x):
        return Polynomial.constant(x)
    return x if isinstance(x, Polynomial) else None


def part_polynomial(part):
    """Return the polynomial of an operand, or the integer behind one."""
    if isinstance(part, Expression):
        return polynomial(part)
    return part


def polynomial(expression):
    """Return the polynomial of an expression, whose unknowns are the texts of the accesses."""
    check_expression(expression)
    if expression.kind == "number":
        return Polynomial.constant(expression.parts[0])
    if expression.kind == "access":
        return Polynomial.unknown(text_of(expression))
    if expression.kind not in JOINED_KINDS:
        raise NotPolynomial()
    parts = [part_polynomial(part) for part in expression.parts]
    action = ACTIONS[expression.kind]
    return action(*parts)


def unknowns_of(p, q):
    """Return the unknowns that occur in two polynomials."""
    return ascending([name for product, coefficient in [*p.terms, *q.terms] for name in product])


def put_in(p, name, n):
    """Return a polynomial with an integer in the place of an unknown."""
    return Polynomial([
        (
            tuple([each for each in product if each != name]),
            coefficient * product_value([each for each in product if each == name], {name: n}),
        )
        for product, coefficient in p.terms
    ])


def parting(p, q):
    """Return a positive integer for each unknown such that the values differ, or None if there are none."""
    if p == q:
        return None
    rest = p - q
    found = {}
    for name in unknowns_of(p, q):
        # As a polynomial in this unknown, what is left is 0 for no more integers than its degree.
        found[name] = 1
        while len(put_in(rest, name, found[name]).terms) == 0:
            found[name] = found[name] + 1
        rest = put_in(rest, name, found[name])
    return found
