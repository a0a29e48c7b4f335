"""[15] to [19] and [21]: expressions, accesses, values, texts, gains and losses."""

import unittest

from levelwalks.errors import BadNumber, NotAnAccess, NotAnExpression, RepeatedLetter
from levelwalks.expressions import Expression, access, number, value_of
from tests.helper import (
    NUMBERED, NUMBERS_BEHIND, ONE_OPERAND, OPERATORS, TWO_OPERANDS, VALUES, built, deep_models, flat_models, gains,
    is_deep_tuple, model_accesses, model_node_count, model_of, model_text, model_value,
)

BY_SIGN = ("plus", "minus", "times", "both", "either", "unlike")
X = ("access", "a", ("k", "i"))
Y = ("negative", ("access", "s", ()))
WORTHS = (0, 1, -1, 2, -2, 3, 7, -8, 10 ** 59 + 7, -(10 ** 59) - 1, 10 ** 60 - 1)


class MakingTest(unittest.TestCase):
    def test_number(self):
        for n in (0, 5, -5, 10 ** 19, -(10 ** 20) + 1):
            x = number(n)
            self.assertIsInstance(x, Expression)
            self.assertEqual((x.kind, x.parts), ("number", (n,)))
        self.assertEqual(number(n=4).parts, (4,))

    def test_two_expressions(self):
        for kind in TWO_OPERANDS:
            for first, second in ((X, Y), (Y, X), (X, X), (Y, ("number", 2))):
                with self.subTest(kind):
                    x, y = built(first), built(second)
                    joined = OPERATORS[kind](x, y)
                    self.assertIsInstance(joined, Expression)
                    self.assertEqual(joined.kind, kind)
                    self.assertIs(type(joined.parts), tuple)
                    self.assertEqual([model_of(part) for part in joined.parts], [first, second])

    def test_an_integer_on_either_side(self):
        for kind in TWO_OPERANDS:
            for n in (0, 2, -3, 10 ** 19):
                with self.subTest(kind, n=n):
                    self.assertEqual(model_of(OPERATORS[kind](built(X), n)), (kind, X, ("number", n)))
                    self.assertEqual(model_of(OPERATORS[kind](n, built(X))), (kind, ("number", n), X))
                    for part in OPERATORS[kind](n, built(X)).parts + OPERATORS[kind](built(X), n).parts:
                        self.assertIsInstance(part, Expression)

    def test_one_expression_and_an_integer(self):
        for kind in NUMBERED:
            for n in NUMBERS_BEHIND[kind]:
                with self.subTest(kind, n=n):
                    made = OPERATORS[kind](built(X), n)
                    self.assertEqual((made.kind, model_of(made.parts[0]), made.parts[1]), (kind, X, n))
                    self.assertIs(type(made.parts[1]), int)
                    self.assertEqual(len(made.parts), 2)

    def test_every_shift_and_exponent_that_is_allowed(self):
        for n in range(61):
            self.assertEqual((built(X) << n).parts[1], n)
            self.assertEqual((built(X) >> n).parts[1], n)
        for n in range(1, 5):
            self.assertEqual((built(X) ** n).parts[1], n)

    def test_one_operand(self):
        for kind in ONE_OPERAND:
            for model in (X, Y, ("number", -3)):
                with self.subTest(kind, model=model):
                    made = OPERATORS[kind](built(model))
                    self.assertEqual(made.kind, kind)
                    self.assertEqual([model_of(part) for part in made.parts], [model])

    def test_a_plus_in_front(self):
        for model in (X, Y, ("number", -3)):
            self.assertEqual(model_of(+built(model)), model)

    def test_nothing_is_computed(self):
        self.assertEqual(model_of(number(1) + 2), ("plus", ("number", 1), ("number", 2)))
        self.assertEqual(model_of(number(6) // 3), ("quotient", ("number", 6), 3))
        self.assertEqual(model_of(-number(3)), ("negative", ("number", 3)))
        self.assertEqual(model_of(-(-number(3))), ("negative", ("negative", ("number", 3))))
        self.assertEqual(model_of(abs(number(3))), ("absolute", ("number", 3)))
        self.assertEqual(model_of(number(3) ** 1), ("power", ("number", 3), 1))
        self.assertEqual(model_of(number(0) * access("a")), ("times", ("number", 0), ("access", "a", ())))
        self.assertEqual(model_of(access("a") << 0), ("left", ("access", "a", ()), 0))

    def test_kinds_within_one_another(self):
        for model in deep_models():
            self.assertEqual(model_of(built(model)), model)

    def test_operands_stay_as_they_were(self):
        for kind in TWO_OPERANDS:
            x, y = built(X), built(Y)
            OPERATORS[kind](x, y)
            OPERATORS[kind](2, y)
            self.assertEqual((model_of(x), model_of(y)), (X, Y))
            self.assertEqual((x.letters, x.accesses, x.node_count), (("i", "k"), (X[1:],), 1))
        for kind in NUMBERED + ONE_OPERAND:
            x = built(Y)
            OPERATORS[kind](*((x, 2) if kind in NUMBERED else (x,)))
            self.assertEqual((model_of(x), x.node_count, x.text), (Y, 2, "(-s[])"))

    def test_wrong_integers(self):
        wrong = {
            "quotient": (0,), "remainder": (0,), "power": (0, 5, -1, -4, 6, 10 ** 19),
            "left": (-1, 61, 62, 600, -(10 ** 19)), "right": (-1, 61, 62, 600, -(10 ** 19)),
        }
        for kind in NUMBERED:
            for n in wrong[kind]:
                for model in (X, Y, ("number", 0)):
                    with self.subTest(kind, n=n), self.assertRaises(BadNumber) as caught:
                        OPERATORS[kind](built(model), n)
                    self.assertEqual(caught.exception.n, n)


class AccessTest(unittest.TestCase):
    def test_accesses(self):
        for name in ("a", "zz", "abcdefgh", "greater", "absolute"):
            for letters in ((), ("i",), ("k", "i"), ("a", "z", "m")):
                x = access(name, *letters)
                self.assertIsInstance(x, Expression)
                self.assertEqual((x.kind, x.parts), ("access", (name, letters)))
                self.assertIs(type(x.parts[1]), tuple)
        self.assertEqual(access(name="b").parts, ("b", ()))

    def test_repeated_letters(self):
        for letters, letter in (
            ("ii", "i"), ("iik", "i"), ("iki", "i"), ("kii", "i"), ("kik", "k"), ("kki", "k"), ("zzz", "z"), ("aza", "a"),
        ):
            with self.subTest(letters), self.assertRaises(RepeatedLetter) as caught:
                access("a", *letters)
            self.assertEqual(caught.exception.letter, letter)


class AttributesTest(unittest.TestCase):
    def check(self, model):
        x = built(model)
        accesses = model_accesses(model)
        self.assertEqual(x.accesses, accesses)
        self.assertEqual(x.letters, tuple(sorted({letter for name, letters in accesses for letter in letters})))
        self.assertEqual(x.node_count, model_node_count(model))
        self.assertIs(type(x.letters), tuple)
        self.assertTrue(is_deep_tuple(x.accesses) and isinstance(x.accesses, tuple))

    def test_each_kind(self):
        for model in flat_models():
            with self.subTest(model=model):
                self.check(model)

    def test_kinds_within_one_another(self):
        for model in deep_models(depth=4):
            with self.subTest(model=model):
                self.check(model)

    def test_accesses_come_from_left_to_right(self):
        a, b = access("a", "z", "i"), access("b", "k")
        x = (a * b - 2) + (b ** 3) * (-a)
        self.assertEqual(x.accesses, (("a", ("z", "i")), ("b", ("k",)), ("b", ("k",)), ("a", ("z", "i"))))
        self.assertEqual(x.letters, ("i", "k", "z"))
        self.assertEqual(x.node_count, 11)

    def test_nothing(self):
        self.assertEqual((number(3).letters, number(3).accesses, number(3).node_count), ((), (), 1))
        self.assertEqual(access("s").letters, ())
        self.assertEqual(access("s").accesses, (("s", ()),))

    def test_the_integers_behind_are_no_nodes(self):
        x = access("a")
        for made in (x ** 4, x << 5, x >> 5, x // 7, x % 7):
            self.assertEqual(made.node_count, 2)
        self.assertEqual((x * 7).node_count, 3)


class ValueTest(unittest.TestCase):
    def test_two_operands(self):
        for kind in TWO_OPERANDS:
            x = OPERATORS[kind](access("a", "i"), access("b"))
            for first in WORTHS:
                for second in WORTHS:
                    values = {("a", ("i",)): first, ("b", ()): second}
                    with self.subTest(kind, values=values):
                        self.assertEqual(value_of(x, values), VALUES[kind](first, second))

    def test_an_integer_behind(self):
        for kind in NUMBERED:
            for n in NUMBERS_BEHIND[kind]:
                for worth in WORTHS:
                    with self.subTest(kind, n=n, worth=worth):
                        x = OPERATORS[kind](access("a"), n)
                        self.assertEqual(value_of(x, {("a", ()): worth}), VALUES[kind](worth, n))

    def test_one_operand(self):
        for kind in ONE_OPERAND:
            for worth in WORTHS:
                x = OPERATORS[kind](access("a"))
                self.assertEqual(value_of(x, {("a", ()): worth}), VALUES[kind](worth))

    def test_divisors_below_0(self):
        x = access("a")
        for worth, n, quotient, remainder in ((7, -2, -4, -1), (-7, 2, -4, 1), (-7, -2, 3, -1), (6, -3, -2, 0)):
            values = {("a", ()): worth}
            self.assertEqual((value_of(x // n, values), value_of(x % n, values)), (quotient, remainder))
        self.assertEqual(value_of(x >> 1, {("a", ()): -1}), -1)

    def test_values_are_integers(self):
        for kind in ("below", "at_most", "equal", "unequal"):
            self.assertIs(type(value_of(OPERATORS[kind](number(1), 1), {})), int)

    def test_numbers_and_accesses(self):
        self.assertEqual(value_of(number(-4), {}), -4)
        values = {("a", ("i", "k")): 5, ("a", ("k", "i")): 6, ("a", ()): 7, ("b", ("i", "k")): 8}
        self.assertEqual(value_of(access("a", "i", "k"), values), 5)
        self.assertEqual(value_of(access("a", "k", "i"), values), 6)
        self.assertEqual(value_of(access("a"), values), 7)
        self.assertEqual(value_of(expression=access("b", "i", "k"), values=values), 8)

    def test_kinds_within_one_another(self):
        for number_of, model in enumerate(deep_models(depth=4)):
            values = {pair: WORTHS[(number_of + len(pair[1])) % len(WORTHS)] for pair in model_accesses(model)}
            before = dict(values)
            with self.subTest(model=model):
                self.assertEqual(value_of(built(model), values), model_value(model, values))
            self.assertEqual(values, before)


class TextTest(unittest.TestCase):
    def test_each_kind(self):
        for model in flat_models():
            self.assertEqual(built(model).text, model_text(model))

    def test_kinds_within_one_another(self):
        for model in deep_models(depth=4):
            self.assertEqual(built(model).text, model_text(model))

    def test_texts_as_they_are(self):
        x, s = access("a", "i", "k"), access("s")
        for made, text in (
            (number(-3), "-3"), (-number(3), "(-3)"), (-number(-3), "(--3)"), (x, "a[i, k]"), (s, "s[]"),
            (x + 1, "(a[i, k] + 1)"), (1 - x, "(1 - a[i, k])"), (x * s, "(a[i, k] * s[])"), (x & s, "(a[i, k] & s[])"),
            (x | 3, "(a[i, k] | 3)"), (x ^ -3, "(a[i, k] ^ -3)"), (s // -2, "(s[] // -2)"), (s ** 2, "(s[] ** 2)"),
            (s << 60, "(s[] << 60)"), (s >> 0, "(s[] >> 0)"), (~s, "(~s[])"), (abs(s), "absolute(s[])"),
            (s % 3, "remainder(s[], 3)"), (-(s + x) * 2, "((-(s[] + a[i, k])) * 2)"),
        ):
            with self.subTest(text):
                self.assertEqual(made.text, text)
                self.assertEqual(made.text, text)


class GainTest(unittest.TestCase):
    def test_gains_and_losses(self):
        for model in (("access", "a", ()), X):
            for other in (X, Y, ("number", 0), ("times", X, Y)):
                x, y = built(model), built(other)
                gain, loss = x, x
                gain += y
                loss -= y
                for made, kind in ((gain, "gain"), (loss, "loss")):
                    self.assertIsInstance(made, Expression)
                    self.assertEqual((made.kind, type(made.parts)), (kind, tuple))
                    self.assertEqual([model_of(part) for part in made.parts], [model, other])
                self.assertEqual((model_of(x), model_of(y)), (model, other))

    def test_an_integer_becomes_a_number(self):
        gain = loss = access("a", "i")
        gain += 5
        loss -= -5
        self.assertEqual(model_of(gain), ("gain", ("access", "a", ("i",)), ("number", 5)))
        self.assertEqual(model_of(loss), ("loss", ("access", "a", ("i",)), ("number", -5)))

    def test_no_access(self):
        for x in (number(3), access("a") + 1, -access("a"), abs(access("a")), *gains()):
            with self.assertRaises(NotAnAccess):
                x += access("b")
            with self.assertRaises(NotAnAccess):
                x -= 2

    def test_a_gain_is_no_operand(self):
        x = access("c", "i")
        for wrong in gains():
            for kind in TWO_OPERANDS:
                for pair in ((wrong, x), (x, wrong), (wrong, 2), (2, wrong), (wrong, wrong)):
                    with self.subTest(kind), self.assertRaises(NotAnExpression):
                        OPERATORS[kind](*pair)
            for kind in NUMBERED:
                with self.subTest(kind), self.assertRaises(NotAnExpression):
                    OPERATORS[kind](wrong, 2)
            for kind in ONE_OPERAND:
                with self.subTest(kind), self.assertRaises(NotAnExpression):
                    OPERATORS[kind](wrong)
            with self.assertRaises(NotAnExpression):
                +wrong
            with self.assertRaises(NotAnExpression):
                x += wrong
            with self.assertRaises(NotAnExpression):
                x -= wrong
            with self.assertRaises(NotAnExpression):
                value_of(wrong, {("a", ("i",)): 1, ("b", ()): 2})
            self.assertEqual(model_of(x), ("access", "c", ("i",)))


if __name__ == "__main__":
    unittest.main()
