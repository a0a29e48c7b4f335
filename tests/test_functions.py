"""[15]: the kinds that are made by functions."""

import unittest

from levelwalks import functions
from levelwalks.errors import NotAnExpression
from levelwalks.expressions import Expression, access, number, value_of
from tests.helper import gains, model_of

TABLE = (
    ("greater", (1, 2, 2, -5), ((1, 0), (2, 1), (2, 2), (-5, -6))),
    ("lesser", (0, 1, 2, -6), ((1, 0), (2, 1), (2, 2), (-5, -6))),
    ("below", (0, 1, 0, 1), ((1, 0), (1, 2), (2, 2), (-6, -5))),
    ("at_most", (0, 1, 1, 0), ((1, 0), (1, 2), (2, 2), (-5, -6))),
    ("equal", (0, 0, 1, 1), ((1, 0), (1, 2), (2, 2), (10 ** 59, 10 ** 59))),
    ("unequal", (1, 1, 0, 1), ((1, 0), (1, 2), (2, 2), (10 ** 59, 10 ** 59 + 1))),
)


class FunctionsTest(unittest.TestCase):
    def test_kind_parts_and_value(self):
        for kind, worths, pairs in TABLE:
            function = getattr(functions, kind)
            for worth, pair in zip(worths, pairs):
                with self.subTest(kind, pair=pair):
                    made = function(number(pair[0]), number(pair[1]))
                    self.assertIsInstance(made, Expression)
                    self.assertEqual(model_of(made), (kind, ("number", pair[0]), ("number", pair[1])))
                    self.assertEqual(value_of(made, {}), worth)
                    self.assertEqual(made.text, f"{kind}({pair[0]}, {pair[1]})")

    def test_an_integer_on_either_side(self):
        for kind, worths, pairs in TABLE:
            function = getattr(functions, kind)
            a = ("access", "a", ("i",))
            self.assertEqual(model_of(function(access("a", "i"), -3)), (kind, a, ("number", -3)))
            self.assertEqual(model_of(function(-3, access("a", "i"))), (kind, ("number", -3), a))

    def test_by_keyword(self):
        for kind, worths, pairs in TABLE:
            made = getattr(functions, kind)(y=access("b"), x=2)
            self.assertEqual(model_of(made), (kind, ("number", 2), ("access", "b", ())))

    def test_a_gain_is_no_operand(self):
        for kind, worths, pairs in TABLE:
            for wrong in gains():
                for pair in ((wrong, number(1)), (number(1), wrong), (wrong, 1), (1, wrong)):
                    with self.subTest(kind), self.assertRaises(NotAnExpression):
                        getattr(functions, kind)(*pair)


if __name__ == "__main__":
    unittest.main()
