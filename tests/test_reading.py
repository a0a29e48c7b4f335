"""[20]: reading the texts of expressions, and the index at which every other string is refused."""

import unittest

from levelwalks.errors import BadExpression
from levelwalks.expressions import Expression
from levelwalks.reading import read_expression
from tests.helper import (
    EXPRESSION, changed_texts, deep_models, first_wrong, flat_models, model_of, model_text,
)

# Signs that are put in everywhere: those that texts are made of, and some that never stand in one.
SIGNS = "-0 (i1*/,]~"
MORE_SIGNS = "-+0169 ()[]abz_*/<>&|^~,%=.A\n"


def refused_at(text):
    """The index that the error tells, or None if the text is read."""
    try:
        read_expression(text)
    except BadExpression as error:
        return error.at
    return None


class RightTextsTest(unittest.TestCase):
    def check(self, model):
        text = model_text(model)
        with self.subTest(text):
            x = read_expression(text)
            self.assertIsInstance(x, Expression)
            self.assertEqual(model_of(x), model)
            self.assertEqual(x.text, text)

    def test_each_kind(self):
        for model in flat_models():
            self.check(model)

    def test_kinds_within_one_another(self):
        for model in deep_models() + deep_models(20, 5, 8):
            self.check(model)

    def test_a_minus_and_digits(self):
        three = ("number", 3)
        self.assertEqual(model_of(read_expression("-3")), ("number", -3))
        self.assertEqual(model_of(read_expression("(-3)")), ("negative", three))
        self.assertEqual(model_of(read_expression("(--3)")), ("negative", ("number", -3)))
        self.assertEqual(model_of(read_expression("(-0)")), ("negative", ("number", 0)))
        self.assertEqual(model_of(read_expression("(-3 + 3)")), ("plus", ("number", -3), three))
        self.assertEqual(model_of(read_expression("(-(3 + 3))")), ("negative", ("plus", three, three)))
        self.assertEqual(model_of(read_expression("((-3) + 3)")), ("plus", ("negative", three), three))
        self.assertEqual(model_of(read_expression("(3 - -3)")), ("minus", three, ("number", -3)))
        self.assertEqual(model_of(read_expression("(-3 ** 2)")), ("power", ("number", -3), 2))

    def test_words_that_are_kinds_may_be_names(self):
        for name in ("greater", "lesser", "below", "equal", "unequal", "absolute", "at", "plus", "negative"):
            self.check(("access", name, ()))
            self.check(("access", name, ("i", "k")))

    def test_more_than_callers_stay_within(self):
        model = ("access", "a", ("i",))
        for number in range(58):
            model = ("plus", ("access", "bcdefgh"[number % 7], ("klmnopq"[number % 7],)), model)
        self.check(model)
        powers = ("access", "a", ())
        for number in range(10):
            powers = ("power", powers, 4)
        self.check(powers)
        self.check(("number", -(10 ** 199)))
        self.check(("quotient", ("number", 10 ** 199), 10 ** 198 + 1))

    def test_sixty_parentheses(self):
        for kind in ("negative", "inverse", "absolute"):
            model = ("number", 7)
            for each in range(60):
                model = (kind, model)
            self.check(model)
        model = ("access", "a", ())
        for each in range(60):
            model = ("at_most", model, ("number", -1))
        self.check(model)
        self.assertEqual(refused_at("(" * 60), 60)
        self.assertEqual(refused_at("(-" * 60 + "x"), 121)
        self.assertEqual(refused_at("(-" * 60 + "x[]" + ")" * 59), 182)
        self.assertEqual(refused_at("(-" * 60 + "x[]" + ")" * 61), 183)

    def test_by_keyword(self):
        self.assertEqual(model_of(read_expression(text="4")), ("number", 4))


class WrongTextsTest(unittest.TestCase):
    def check(self, text, at):
        with self.subTest(text):
            self.assertEqual(refused_at(text), at)

    def test_ends_and_what_is_behind_them(self):
        for text, at in (
            ("", 0), (" ", 0), ("\n", 0), (" 3", 0), ("3 ", 1), ("3\n", 1), ("a[] ", 3), ("a[]a[]", 3), ("(-3))", 4),
            ("(", 1), ("(-", 2), ("(a", 2), ("(a[]", 4), ("(a[] ", 5), ("(a[] +", 6), ("(a[] + ", 7), ("(a[] + 1", 8),
            ("-", 1), ("a", 1), ("a[", 2), ("a[i", 3), ("a[i,", 4), ("a[i, ", 5), ("a[i, k", 6), ("()", 1), (")", 0),
            ("greater", 7), ("greater(", 8), ("greater(1", 9), ("greater(1,", 10), ("greater(1, ", 11),
            ("greater(1, 2", 12), ("greater(1, 2)", None), ("greater(1, 2) ", 13),
        ):
            self.check(text, at)

    def test_accesses(self):
        for text, at in (
            ("a[i, i]", 5), ("a[i, k, i]", 8), ("a[i, k, k]", 8), ("a[i, k, l, m]", 9), ("a[i, k, l,", 9), ("a[ij]", 3),
            ("a[i,k]", 4), ("a[i , k]", 3), ("a[ i]", 2), ("a[i ]", 3), ("a[I]", 2), ("a[1]", 2), ("a[,]", 2),
            ("a[i,]", 4), ("a[i, ]", 5), ("a []", 1), ("A[]", 0), ("a1[]", 1), ("a_[]", 1), ("_a[]", 0), ("a()", 1),
            ("abcdefgh[]", None), ("abcdefghi[]", 8), ("abcdefghi", 8), ("abcdefgh", 8), ("remainde[]", None),
            ("remainder[]", 9), ("remainder", 9), ("remaindex[]", 8), ("absolutes(1)", 8), ("[i]", 0), ("a]", 1),
        ):
            self.check(text, at)

    def test_words_that_are_no_kinds(self):
        for text, at in (
            ("plus(1, 2)", 4), ("negative(1)", 8), ("quotient(1, 2)", 8), ("power(1, 2)", 5), ("number(1)", 6),
            ("at_most[]", 7), ("at_most", 7), ("at_", 3), ("at_l", 3), ("ab_", 2), ("greate(1, 2)", 6), ("gain(1, 2)", 4),
            ("greaters(1, 2)", 8), ("Greater(1, 2)", 0), ("greater (1, 2)", 7), ("greater(1,2)", 10), ("greater(1)", 9),
            ("greater(1, 2, 3)", 12), ("absolute(1, 2)", 10), ("absolute()", 9), ("remainder(1)", 11), ("lesser()", 7),
        ):
            self.check(text, at)

    def test_signs(self):
        for text, at in (
            ("1 + 2", 1), ("(1 + 2", 6), ("(1+2)", 2), ("(1 +2)", 4), ("(1 + 2 )", 6), ("( 1 + 2)", 1), ("(1  + 2)", 3),
            ("(1)", 2), ("(a[])", 4), ("(+1)", 1), ("+1", 0), ("(1 / 2)", 4), ("(1 < 2)", 4), ("(1 > 2)", 4),
            ("(1 % 2)", 3), ("(1 == 2)", 3), ("(1 *** 2)", 5), ("(1 /// 2)", 5), ("(1 <<< 2)", 5), ("(1 >< 2)", 4),
            ("(1 ++ 2)", 4), ("(1 + 2 + 3)", 6), ("(~1", 3), ("(~ 1)", 2), ("~1", 0), ("(- 1)", 2), ("(-1 )", 4),
            ("(-0 + 1)", 3), ("(--0)", 3), ("(---1)", 3), ("(--1 + 2)", 4), ("(-a[] + 1)", 5), ("-a[]", 1), ("--1", 1),
        ):
            self.check(text, at)

    def test_integers(self):
        for text, at in (
            ("00", 1), ("01", 1), ("-0", 1), ("-01", 1), ("-00", 1), ("1_0", 1), ("+1", 0), ("1.0", 1), ("0x1", 1), ("1a", 1),
            ("(00 + 1)", 2), ("(1 + 01)", 6), ("(1 + -0)", 6), ("(-01)", 3), ("(-00)", 3), ("(1 - --1)", 6),
        ):
            self.check(text, at)

    def test_integers_behind(self):
        for text, at in (
            ("(1 // 0)", 6), ("(1 // -0)", 7), ("(1 // -", 7), ("(1 // --1)", 7), ("(1 // 01)", 6), ("(1 // a[])", 6),
            ("(1 // (-1))", 6), ("(1 // 10", 8), ("(1 // 10)", None), ("(1 // -10)", None),
            ("remainder(1, 0)", 13), ("remainder(1, -0)", 14), ("remainder(1, -10)", None), ("remainder(1, a[])", 13),
            ("(1 ** 0)", 6), ("(1 ** 5)", 6), ("(1 ** -1)", 6), ("(1 ** 1)", None), ("(1 ** 4)", None), ("(1 ** 10)", 7),
            ("(1 ** 4", 7), ("(1 << -1)", 6), ("(1 << 0)", None), ("(1 << 00)", 7), ("(1 << 6", 7), ("(1 << 6)", None),
            ("(1 << 60)", None), ("(1 << 61)", 7), ("(1 << 7)", None), ("(1 << 70)", 7), ("(1 << 600)", 8),
            ("(1 >> 59)", None), ("(1 >> 599)", 8), ("(1 >> 61)", 7), ("(1 >> 05)", 7), ("(1 >> )", 6), ("(1 >> 6", 7),
        ):
            self.check(text, at)

    def test_long_texts(self):
        self.check("a" * 2000, 8)
        self.check("9" * 200 + ")", 200)
        self.check("(" * 60 + "1" * 200, 260)
        self.check("(1 + " * 60, 300)

    def check_changes(self, text, signs):
        for wrong in changed_texts(text, signs):
            self.assertEqual(refused_at(wrong), first_wrong(wrong, (EXPRESSION,)), wrong)

    def test_changes_at_each_place_of_each_kind(self):
        for model in flat_models()[::11]:
            self.check_changes(model_text(model), SIGNS)

    def test_changes_within_one_another(self):
        for model in deep_models(6, 3, 5):
            self.check_changes(model_text(model), SIGNS)

    def test_all_signs(self):
        for text in ("-30", "(-10)", "abcdefgh[i, k]", "(s[] // 20)", "remainder(a[], -7)", "at_most(-1, 2)", "(a[] << 60)"):
            self.check_changes(text, MORE_SIGNS)


if __name__ == "__main__":
    unittest.main()
