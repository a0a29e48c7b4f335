"""[38] to [40]: polynomials."""

import unittest
from itertools import combinations_with_replacement, product
from random import Random

from levelwalks.errors import NotAnExpression, NotPolynomial
from levelwalks.expressions import access, number
from levelwalks.functions import at_most, below, equal, greater, lesser, unequal
from levelwalks.polynomials import Polynomial, parting, polynomial
from tests.helper import Maker, gains, is_deep_tuple, model_of, model_value

X, Y, Z = Polynomial.unknown("x"), Polynomial.unknown("y"), Polynomial.unknown("z")
BIG = 10 ** 59 + 12345


def constant(n):
    return Polynomial.constant(n)


def model_sum(*models):
    """The sum of models: dicts from products to coefficients, without zeros."""
    found = {}
    for model in models:
        for factors, n in model.items():
            found[factors] = found.get(factors, 0) + n
    return {factors: n for factors, n in found.items() if n != 0}


def model_product(first, second):
    return model_sum(*({tuple(sorted(a + b)): m * n} for a, m in first.items() for b, n in second.items()))


def model_power(model, n):
    found = {(): 1}
    for factor in range(n):
        found = model_product(found, model)
    return found


def some_pairs(many=60):
    """Polynomials with their models."""
    chance = Random(1)
    found = [(constant(0), {}), (constant(7), {(): 7}), (X, {("x",): 1}), (Y, {("y",): 1})]
    while len(found) < many:
        (p, first), (q, second) = chance.choice(found), chance.choice(found)
        if len(p.terms) * len(q.terms) > 60:
            continue
        n = chance.randint(-3, 3)
        found.append(chance.choice([
            (p + q, model_sum(first, second)), (p - q, model_sum(first, model_product({(): -1}, second))),
            (p * q, model_product(first, second)), (-p, model_product({(): -1}, first)), (p * n, model_product(first, {(): n})),
            (n + p, model_sum(first, {(): n})), (n - p, model_sum({(): n}, model_product({(): -1}, first))),
        ]))
    return found


class PolynomialTest(unittest.TestCase):
    def check(self, p, model):
        self.assertIsInstance(p, Polynomial)
        self.assertEqual(p.terms, tuple(sorted((factors, n) for factors, n in model.items() if n != 0)))
        self.assertTrue(isinstance(p.terms, tuple) and is_deep_tuple(p.terms))

    def test_constants_and_unknowns(self):
        for n in (0, 1, -1, 7, 10 ** 80, -(10 ** 80)):
            self.check(Polynomial.constant(n), {(): n})
            self.check(Polynomial.constant(n=n), {(): n})
        for name in ("x", "a[i, k]", "s[]", "", "two words"):
            self.check(Polynomial.unknown(name), {(name,): 1})
            self.check(Polynomial.unknown(name=name), {(name,): 1})

    def test_the_order_of_terms_and_factors(self):
        p = Z * X + 3 * Y * X * Z - X * X * X + 5 - Y
        self.assertEqual(p.terms, (((), 5), (("x", "x", "x"), -1), (("x", "y", "z"), 3), (("x", "z"), 1), (("y",), -1)))
        self.assertEqual((X * Y).terms, (Y * X).terms)
        p = Polynomial.unknown("b[]") * Polynomial.unknown("a[i]") * Polynomial.unknown("a[i, k]")
        self.assertEqual(p.terms, ((("a[i, k]", "a[i]", "b[]"), 1),))

    def test_operators(self):
        for (p, first), (q, second) in product(some_pairs(), repeat=2):
            before = (p.terms, q.terms)
            self.check(p + q, model_sum(first, second))
            self.check(p - q, model_sum(first, model_product({(): -1}, second)))
            if len(first) * len(second) < 200:
                self.check(p * q, model_product(first, second))
            self.assertEqual((p.terms, q.terms), before)

    def test_integers_on_either_side(self):
        for p, model in some_pairs():
            self.check(-p, model_product({(): -1}, model))
            for n in (0, 1, -1, 5, -(10 ** 30)):
                number_model = {(): n}
                self.check(p + n, model_sum(model, number_model))
                self.check(n + p, model_sum(model, number_model))
                self.check(p - n, model_sum(model, {(): -n}))
                self.check(n - p, model_sum(number_model, model_product({(): -1}, model)))
                self.check(p * n, model_product(model, number_model))
                self.check(n * p, model_product(model, number_model))

    def test_powers(self):
        for p, model in some_pairs(30):
            for n in range(9):
                if len(model) < 4 or n < 4:
                    self.check(p ** n, model_power(model, n))
        self.check((X + Y + Z + 2) ** 8, model_power({("x",): 1, ("y",): 1, ("z",): 1, (): 2}, 8))
        self.check(constant(0) ** 0, {(): 1})
        self.check(constant(0) ** 3, {})
        self.check(((X + 1) ** 2) ** 4 - (X + 1) ** 8, {})

    def test_terms_that_cancel(self):
        self.check(X - X, {})
        self.check((X + Y) * (X - Y) - X * X, {("y", "y"): -1})
        self.check(X * 0, {})
        self.check(0 * X + 0, {})

    def test_operators_in_place_change_nothing(self):
        p = q = X + 1
        p += Y
        self.check(p, {("x",): 1, (): 1, ("y",): 1})
        self.check(q, {("x",): 1, (): 1})
        p *= 2
        p -= 1
        self.check(p, {("x",): 2, (): 1, ("y",): 2})

    def test_equal_and_unlike(self):
        pairs = some_pairs()
        for (p, first), (q, second) in product(pairs, repeat=2):
            self.assertIs(p == q, first == second)
            self.assertIs(p != q, first != second)
        self.assertTrue((X + 1) ** 2 == X * X + 2 * X + 1)
        self.assertTrue(X != Y)
        self.assertFalse(X == "x")
        self.assertTrue(X != None)  # noqa: E711

    def test_sorted_by_terms(self):
        found = [p for p, model in some_pairs()]
        self.assertEqual([p.terms for p in sorted(found)], sorted(p.terms for p in found))
        self.assertIs(X < X, False)

    def test_other_operands(self):
        for call in (
            lambda: X + "x", lambda: "x" + X, lambda: X - None, lambda: () - X, lambda: X * "x", lambda: [] * X, lambda: X < "x", lambda: X < 3,
        ):
            with self.assertRaises(TypeError):
                call()

    def test_values(self):
        chance = Random(2)
        for p, model in some_pairs():
            for values in ({"x": 0, "y": 0}, {"x": 1, "y": -1}, {"x": chance.randint(-9, 9), "y": BIG, "q": 3}, {"y": -BIG, "x": BIG}):
                wanted = 0
                for factors, n in model.items():
                    for name in factors:
                        n *= values[name]
                    wanted += n
                before = dict(values)
                self.assertEqual(p(values), wanted)
                self.assertEqual(p(values=values), wanted)
                self.assertEqual(values, before)
        self.assertEqual(constant(4)({}), 4)
        self.assertEqual(constant(0)({"x": 3}), 0)
        self.assertEqual((X - X)({}), 0)
        self.assertEqual((X ** 8)({"x": BIG}), BIG ** 8)

    def test_without(self):
        p = 4 + X - 2 * Y + 3 * X * Y * Z - Z * Z
        for names, wanted in (
            ([], p), (["x"], 4 - 2 * Y - Z * Z), (["y"], 4 + X - Z * Z), (["x", "y", "z"], constant(4)), (["q"], p),
            (["z", "q", "z"], 4 + X - 2 * Y), (["y", "x"], 4 - Z * Z), (["xy"], p), (["x", "y", "z", ""], constant(4)),
        ):
            for given in (names, tuple(names)):
                before = list(given)
                self.assertEqual(p.without(given).terms, wanted.terms)
                self.assertEqual(p.without(names=given).terms, wanted.terms)
                self.assertEqual(list(given), before)
        self.assertEqual(constant(0).without(["x"]).terms, ())
        self.assertEqual((X * X).without(("x",)).terms, ())
        self.assertEqual(len(p.terms), 5)


class OfExpressionTest(unittest.TestCase):
    def test_each_kind(self):
        a, s = access("a", "i", "k"), access("s")
        p, q = Polynomial.unknown("a[i, k]"), Polynomial.unknown("s[]")
        for x, wanted in (
            (number(-4), constant(-4)), (number(0), constant(0)), (a, p), (s, q), (a + s, p + q), (a - s, p - q), (a * s, p * q),
            (-a, -p), (a ** 1, p), (a ** 2, p * p), (a ** 4, p ** 4), (3 - a, 3 - p), (a * 0, constant(0)), (a - a, constant(0)),
            ((a + s) ** 2, p * p + 2 * p * q + q * q), (-(-a), p), (((a + 1) ** 2) ** 4, (p + 1) ** 8), (number(2) ** 3, constant(8)),
            ((a - s) * (a + s) - a ** 2 + s ** 2, constant(0)), (a * access("a", "k", "i"), p * Polynomial.unknown("a[k, i]")),
        ):
            before = model_of(x)
            self.assertEqual(polynomial(x).terms, wanted.terms)
            self.assertEqual(polynomial(expression=x).terms, wanted.terms)
            self.assertEqual(model_of(x), before)

    def test_random_expressions(self):
        maker, chance = Maker(4), Random(8)
        accesses = [("a", ("i", "k")), ("a", ("k", "i")), ("b", ("i",)), ("s", ())]
        for attempt in range(300):
            x = maker.polynomial(accesses, 3)
            for trial in range(3):
                worths = {pair: chance.randint(-BIG, BIG) for pair in accesses}
                values = {access(name, *letters).text: n for (name, letters), n in worths.items()}
                self.assertEqual(polynomial(x)(values), model_value(model_of(x), worths))

    def test_wrong_kinds(self):
        a, s = access("a", "i", "k"), access("s")
        wrong = (
            a & s, a | s, a ^ s, greater(a, s), lesser(a, 1), below(a, s), at_most(1, s), equal(a, a), unequal(a, 0), a // 2,
            a % 3, a << 0, a >> 0, ~a, abs(a), number(3) // 1, abs(number(0)), equal(number(1), number(1)),
        )
        for x in wrong:
            for y in (x, x + 1, 1 - x, (a * x) ** 2, -(-x), x * 0, (a + (s - (1 + x))), x - x, number(0) * x):
                with self.assertRaises(NotPolynomial):
                    polynomial(y)

    def test_gains_and_losses(self):
        for x in gains():
            with self.assertRaises(NotAnExpression):
                polynomial(x)


def occurring(*polynomials):
    return sorted({name for p in polynomials for factors, n in p.terms for name in factors})


def most_times(name, *polynomials):
    return max(factors.count(name) for p in polynomials for factors, n in p.terms)


class PartingTest(unittest.TestCase):
    def check(self, p, q):
        before = (p.terms, q.terms)
        for found in (parting(p, q), parting(q=q, p=p)):
            self.assertIs(type(found), dict)
            self.assertEqual(list(found), occurring(p, q))
            for name, n in found.items():
                self.assertTrue(1 <= n <= most_times(name, p, q) + 1, (p.terms, q.terms, found))
            self.assertNotEqual(p(found), q(found))
        self.assertEqual((p.terms, q.terms), before)
        found = parting(p, q)
        found["more"] = 5
        self.assertNotIn("more", parting(p, q))

    def test_equal_polynomials(self):
        for p, q in (
            (X, X), (constant(3), constant(3)), (constant(0), X - X), ((X + Y) ** 2, X * X + 2 * X * Y + Y * Y),
            ((X - Y) * (X + Y), X ** 2 - Y ** 2), (X * (Y + Z), Z * X + Y * X), ((X + 1) ** 8, ((X + 1) ** 4) ** 2),
        ):
            self.assertIsNone(parting(p, q))
            self.assertIsNone(parting(q, p))

    def test_constants(self):
        self.assertEqual(parting(constant(1), constant(2)), {})
        self.assertEqual(parting(constant(0), constant(-5)), {})
        self.assertIsNone(parting(constant(5), constant(5)))

    def test_one_more(self):
        for p, model in some_pairs():
            self.check(p, p + 1)
            self.check(p - 1, p)
            self.assertIsNone(parting(p, p + 0))

    def test_products_that_are_0_at_small_integers(self):
        zero = constant(0)
        for roots in range(9):
            p, q = constant(1), constant(1)
            for n in range(1, roots + 1):
                p = p * (X - n)
                q = q * (X - n) * (Y - n)
            for left, right in ((p, zero), (zero, p * 3), (p + Y, Y), (p * Y, zero), (p * (X - Y), p)):
                self.check(left, right)
            if roots < 7:
                self.check(q, zero)
                self.check(q + Z, Z)
        self.check((X - 1) * (X - 2) * (Y - X) * (Y - 3) * (Z - X) * (Z - Y), zero)
        self.check((X - Y) * (X - Y), zero)
        self.check(X * X, X)
        self.check(X * X * Y, X * Y * Y)

    def test_unknowns_of_one_of_both(self):
        self.check(X, Y)
        self.check(X + Z, X)
        self.check(X ** 3, constant(1))
        self.check(constant(2), X + 1)
        self.check(X + Y - Y + Z, X + 1 + Y)
        self.assertEqual(list(parting(Z + Y + 1, Z + Y + X * 0)), ["y", "z"])

    def test_unknowns_that_cancel_in_the_difference(self):
        self.check(X ** 5 + Y, X ** 5 + 2 * Y)
        self.check(X + Y + Z, X + Y + 1)

    def test_random_polynomials(self):
        pairs = some_pairs(70)
        for (p, first), (q, second) in combinations_with_replacement(pairs, 2):
            if first == second:
                self.assertIsNone(parting(p, q))
            else:
                self.check(p, q)


if __name__ == "__main__":
    unittest.main()
