"""[22] to [24]: statements, their texts, the tables that fit them, and their plain meaning."""

import unittest
from itertools import product
from random import Random

from levelwalks.errors import (
    BadExpression, NoTable, NotAnAccess, NotAnExpression, RankClash, SizeClash, TooLarge,
)
from levelwalks.expressions import access, number, value_of
from levelwalks.forms import Form
from levelwalks.functions import at_most, below, equal, greater
from levelwalks.statements import Statement, plain
from levelwalks.storing import Stored
from tests.helper import (
    STATEMENT, built, changed_texts, deep_models, first_wrong, flat_models, gains, is_deep_tuple, model_accesses,
    model_of, model_text, model_value, shapes,
)

ASSIGNS = ("=", "+=", "-=")
LARGEST = 10 ** 60 - 1
TARGETS = (("access", "c", ("i", "j")), ("access", "a", ()), ("access", "abcdefgh", ("z", "k", "a")))
SIGNS = "-+= 0(c*"


def refused_at(text):
    """The index that the error tells, or None if the text is read."""
    try:
        Statement.read(text)
    except BadExpression as error:
        return error.at
    return None


def letters_of(*models):
    return tuple(sorted({letter for model in models for name, letters in model_accesses(model) for letter in letters}))


class StatementTest(unittest.TestCase):
    def check(self, statement, target, expression, sign):
        self.assertIsInstance(statement, Statement)
        self.assertEqual((model_of(statement.target), model_of(statement.expression)), (target, expression))
        self.assertEqual(statement.sign, sign)
        self.assertEqual(statement.letters, letters_of(target, expression))
        self.assertTrue(isinstance(statement.letters, tuple))
        text = model_text(target) + " " + sign + " " + model_text(expression)
        self.assertEqual(statement.text, text)
        self.assertEqual(statement.text, text)

    def test_each_sign(self):
        for target in TARGETS:
            for model in deep_models(30):
                for sign in ASSIGNS:
                    self.check(Statement(built(target), built(model), sign), target, model, sign)
                self.check(Statement(built(target), built(model)), target, model, "=")

    def test_by_keyword(self):
        target, model = TARGETS[0], ("access", "b", ("k", "i"))
        made = Statement(sign="-=", expression=built(model), target=built(target))
        self.check(made, target, model, "-=")

    def test_the_example(self):
        made = Statement(access("c", "i", "j"), access("a", "i", "k") * access("b", "k", "j"))
        self.assertEqual(made.text, "c[i, j] = (a[i, k] * b[k, j])")
        self.assertEqual(made.letters, ("i", "j", "k"))
        self.assertEqual(Statement(access("s"), number(-3), "+=").text, "s[] += -3")
        self.assertEqual(Statement(access("s"), number(-3)).letters, ())

    def test_the_name_of_the_target_in_the_expression(self):
        made = Statement(access("c", "i", "j"), access("c", "j", "i") + access("c", "i", "j"))
        self.assertEqual((made.text, made.letters), ("c[i, j] = (c[j, i] + c[i, j])", ("i", "j")))
        made = Statement(access("c", "z"), access("c", "b"))
        self.assertEqual(made.letters, ("b", "z"))

    def test_wrong_targets(self):
        for wrong in (number(3), access("a") + 1, -access("a"), greater(access("a"), 1), access("a") ** 1, *gains()):
            for expression in (number(1), access("b", "i"), *gains()):
                with self.assertRaises(NotAnAccess):
                    Statement(wrong, expression)

    def test_wrong_expressions(self):
        for wrong in gains():
            for sign in ASSIGNS:
                with self.assertRaises(NotAnExpression):
                    Statement(access("c", "i"), wrong, sign)

    def test_operands_stay_as_they_were(self):
        target, expression = access("c", "i"), access("a", "k") + 1
        Statement(target, expression)
        self.assertEqual((model_of(target), target.letters), (("access", "c", ("i",)), ("i",)))
        self.assertEqual((expression.text, expression.letters), ("(a[k] + 1)", ("k",)))


class ReadTest(unittest.TestCase):
    def check_right(self, target, model, sign):
        text = model_text(target) + " " + sign + " " + model_text(model)
        with self.subTest(text):
            made = Statement.read(text)
            self.assertIsInstance(made, Statement)
            self.assertEqual((model_of(made.target), model_of(made.expression)), (target, model))
            self.assertEqual((made.sign, made.letters, made.text), (sign, letters_of(target, model), text))

    def test_right_texts(self):
        for number_of, model in enumerate(flat_models()[::3] + deep_models()):
            self.check_right(TARGETS[number_of % 3], model, ASSIGNS[number_of // 3 % 3])

    def test_more_letters_than_four(self):
        model = ("times", ("access", "b", ("d", "e", "f")), ("access", "c", ("g", "h", "i")))
        self.check_right(("access", "a", ("a", "b", "c")), model, "=")

    def test_by_keyword(self):
        self.assertEqual(Statement.read(text="a[] = 1").text, "a[] = 1")

    def check_wrong(self, text, at):
        with self.subTest(text):
            self.assertEqual(refused_at(text), at)

    def test_wrong_texts(self):
        for text, at in (
            ("", 0), (" ", 0), ("=", 0), ("= 3", 0), ("3 = 3", 0), ("-3 = 3", 0), ("(a[] + 1) = 3", 0), ("A[] = 3", 0),
            ("a", 1), ("a[", 2), ("a[]", 3), ("a[] ", 4), ("a[] =", 5), ("a[] = ", 6), ("a[] = (", 7), ("a[] = 3", None),
            ("a[] = 3 ", 7), ("a[] = 3\n", 7), ("a[] = 3 = 3", 7), ("a[] = b[] = 3", 9), ("\na[] = 3", 0), (" a[] = 3", 0),
            ("a[]= 3", 3), ("a[]  = 3", 4), ("a[] =3", 5), ("a[] =  3", 6), ("a[]=3", 3), ("a [] = 3", 1),
            ("a[] +", 5), ("a[] + = 3", 5), ("a[] + 3", 5), ("a[] +=", 6), ("a[] += 3", None), ("a[] -= 3", None),
            ("a[] == 3", 5), ("a[] *= 3", 4), ("a[] =+ 3", 5), ("a[] =- 3", 5), ("a[] ++ 3", 5), ("a[] +- 3", 5),
            ("a[] +=3", 6), ("a[] +== 3", 6), ("a[] //= 3", 4), ("a[] : 3", 4), ("a[] := 3", 4), ("a[] = -= 3", 7),
            ("a[i, i] = 3", 5), ("a[i, k, i] = 3", 8), ("a[i, k, l, m] = 3", 9), ("a[ij] = 3", 3), ("a[i,k] = 3", 4),
            ("abcdefghi[] = 3", 8), ("abcdefgh[] = 3", None), ("remainder[] = 3", 8), ("remainder(a[], 3) = 3", 8),
            ("greater[] = 3", None), ("greater(a[], 1) = 3", 7), ("at_most(a[], 1) = 3", 2), ("absolute(1) = 3", 8),
            ("a[i] = a[i, i]", 12), ("a[i] = (a[i] ** 5)", 16), ("a[i] = 03", 8), ("a[i] = x", 8), ("a = 3", 1),
            ("c[i, j] = (a[i, k] * b[k, j]", 28), ("c[i, j] = (a[i, k] * b[k, j]))", 29), ("c[i, j] = a[i, k] * b[k, j]", 17),
        ):
            self.check_wrong(text, at)

    def test_changes_at_each_place(self):
        models = deep_models(8, 2, 3)
        for number_of, model in enumerate(models):
            target = TARGETS[number_of % 3]
            text = model_text(target) + " " + ASSIGNS[number_of // 3 % 3] + " " + model_text(model)
            for wrong in changed_texts(text, SIGNS):
                self.assertEqual(refused_at(wrong), first_wrong(wrong, STATEMENT), wrong)


def dense_table(sizes, cells=None):
    return Stored(sizes, Form(*["dense"] * len(sizes)), cells or {})


class FitTest(unittest.TestCase):
    tables = {
        "c": dense_table((2, 3)), "a": dense_table((2, 4)), "b": dense_table((4, 3)), "s": dense_table(()),
        "v": dense_table((4,)), "t": dense_table((2, 2, 2)), "other": dense_table((6, 6, 6)), "u": dense_table((1, 5)),
    }

    def check(self, text, error, attribute=None):
        with self.subTest(text), self.assertRaises(error) as caught:
            plain(Statement.read(text), self.tables)
        told = caught.exception
        self.assertEqual(told.letter if error is SizeClash else told.name, attribute)

    def test_tables_that_fit(self):
        for text in (
            "c[i, j] = (a[i, k] * b[k, j])", "s[] = 0", "s[] = s[]", "t[i, j, k] = 1", "t[i, j, k] = (t[k, j, i] + t[i, k, j])",
            "c[a, b] += c[a, b]", "v[k] -= b[k, j]", "s[] = t[k, j, i]", "c[j, i] = 0",
        ):
            self.assertEqual(plain(Statement.read(text), self.tables).get("?"), None)

    def test_tables_that_are_missing(self):
        for text, name in (
            ("x[] = 1", "x"), ("c[i, j] = x[]", "x"), ("x[] = (y[] + z[])", "x"), ("s[] = (y[] + z[])", "y"),
            ("s[] = ((v[k] + z[]) + y[])", "z"), ("s[] += (v[k] + y[])", "y"), ("x[i] = v[i, k]", "x"),
        ):
            self.check(text, NoTable, name)

    def test_wrong_numbers_of_letters(self):
        for text, name in (
            ("c[i] = 1", "c"), ("s[i] = 1", "s"), ("c[] = 1", "c"), ("v[i, k] = 1", "v"), ("s[] = v[]", "v"),
            ("s[] = t[i, k]", "t"), ("s[] = ((a[i, k] + v[]) + t[])", "v"), ("c[i] = v[]", "c"), ("s[] = (v[] + x[])", "v"),
            ("c[] = x[]", "c"),
        ):
            self.check(text, RankClash, name)

    def test_the_first_wrong_access_is_told(self):
        self.check("s[] = (x[] + v[])", NoTable, "x")
        self.check("s[] = (v[] + x[])", RankClash, "v")
        self.check("s[i] = x[]", RankClash, "s")
        self.check("x[] = v[]", NoTable, "x")
        self.check("s[] = (c[i, k] * x[])", NoTable, "x")

    def test_sizes_that_clash(self):
        for text, letter in (
            ("c[i, j] = a[j, k]", "j"), ("c[i, j] = b[i, j]", "i"), ("c[i, j] = a[j, i]", "i"), ("c[k, i] = a[i, k]", "i"),
            ("s[] = (a[i, k] + b[i, k])", "i"), ("s[] = (a[k, i] + b[k, i])", "i"), ("v[k] = c[k, j]", "k"),
            ("s[] = (a[z, m] * b[m, z])", "z"), ("s[] = (a[i, b] * b[b, i])", "i"), ("s[] = (v[m] + u[m, l])", "m"),
            ("c[a, b] = c[b, a]", "a"), ("c[b, a] = c[a, b]", "a"), ("s[] = (c[i, j] + (t[i, x, y] + t[x, j, y]))", "j"),
            ("c[i, j] += (t[i, k, l] * t[k, l, j])", "j"), ("s[] = ((c[i, j] + c[i, k]) + t[i, j, k])", "j"),
        ):
            self.check(text, SizeClash, letter)

    def test_clashes_come_behind_missing_tables(self):
        self.check("c[i, j] = (a[j, k] + x[])", NoTable, "x")
        self.check("c[i, j] = (a[j, k] + v[])", RankClash, "v")
        self.check("s[] = (c[i, j] + (c[j, i] + x[]))", NoTable, "x")

    def test_tables_that_no_access_names_do_not_matter(self):
        tables = {"s": dense_table((), {(): 4}), "x": dense_table((6, 6)), "i": dense_table((1,))}
        self.assertEqual(plain(Statement.read("s[] = (s[] + 1)"), tables), {(): 5})

    def test_by_keyword(self):
        self.assertEqual(plain(tables=self.tables, statement=Statement.read("s[] = 4")), {(): 4})


def model_plain(target, model, sign, sizes, cells):
    """The new cells by the document, where `sizes` are those of the letters."""
    letters = letters_of(target, model)
    sums = {}
    for point in product(*(range(sizes[letter]) for letter in letters)):
        spot = dict(zip(letters, point))
        values = {
            (name, inside): cells[name].get(tuple(spot[letter] for letter in inside), 0)
            for name, inside in model_accesses(model)
        }
        at = tuple(spot[letter] for letter in target[2])
        sums[at] = sums.get(at, 0) + model_value(model, values)
    old = cells[target[1]]
    news = {
        at: {"=": sums[at], "+=": old.get(at, 0) + sums[at], "-=": old.get(at, 0) - sums[at]}[sign] for at in sums
    }
    return {at: n for at, n in news.items() if n != 0}


def random_tables(chance, accesses, sizes):
    """Cells and stored tables for accesses, where one name has one number of axes."""
    cells, tables = {}, {}
    for name, letters in accesses:
        shape = tuple(sizes[letter] for letter in letters)
        places = list(product(*map(range, shape)))
        cells[name] = {at: chance.randint(-5, 5) for at in chance.sample(places, chance.randint(0, len(places)))}
        kinds, axes = chance.choice(shapes(len(letters)))
        tables[name] = Stored(shape, Form(*kinds, axes=axes), cells[name])
    return cells, tables


class PlainTest(unittest.TestCase):
    def tables(self):
        return {
            "a": dense_table((2, 3), {(0, 0): 1, (0, 2): 2, (1, 1): -3}), "s": dense_table((), {(): 7}),
            "b": Stored((3, 2), Form("packed", "bits", axes=(1, 0)), {(0, 0): 5, (2, 0): 1, (1, 1): 4}),
            "c": dense_table((2, 2), {(0, 0): 1, (1, 1): -9}), "v": dense_table((2,), {(0,): 3, (1,): -3}),
            "z": Stored((2, 2), Form("hashed", "packed"), {}),
        }

    def check(self, text, cells):
        with self.subTest(text):
            tables = self.tables()
            before = {name: (table.levels, table.data) for name, table in tables.items()}
            found = plain(Statement.read(text), tables)
            self.assertIs(type(found), dict)
            self.assertEqual(found, cells)
            self.assertEqual({name: (table.levels, table.data) for name, table in tables.items()}, before)

    def test_products_and_sums(self):
        self.check("c[i, j] = (a[i, k] * b[k, j])", {(0, 0): 7, (1, 1): -12})
        self.check("c[i, j] += (a[i, k] * b[k, j])", {(0, 0): 8, (1, 1): -21})
        self.check("c[i, j] -= (a[i, k] * b[k, j])", {(0, 0): -6, (1, 1): 3})
        self.check("c[j, i] = (a[i, k] * b[k, j])", {(0, 0): 7, (1, 1): -12})
        self.check("s[] = a[i, k]", {})
        self.check("s[] += b[k, i]", {(): 17})
        self.check("s[] -= (b[k, i] * b[k, j])", {(): 7 - 5 * 5 - 1 - 16})

    def test_letters_of_the_target_alone(self):
        self.check("c[i, j] = v[i]", {(0, 0): 3, (0, 1): 3, (1, 0): -3, (1, 1): -3})
        self.check("c[i, j] = s[]", {(0, 0): 7, (0, 1): 7, (1, 0): 7, (1, 1): 7})
        self.check("v[i] = 0", {})
        self.check("v[i] -= 3", {(1,): -6})

    def test_letters_of_the_expression_alone(self):
        self.check("s[] = a[i, k]", {})
        self.check("v[i] = a[i, k]", {(0,): 3, (1,): -3})
        self.check("v[i] = (s[] + a[i, k])", {(0,): 24, (1,): 18})
        self.check("v[j] = a[i, k]", {})
        self.check("v[j] = b[k, i]", {(0,): 10, (1,): 10})

    def test_the_table_of_the_target_in_the_expression(self):
        self.check("c[i, j] = c[j, i]", {(0, 0): 1, (1, 1): -9})
        self.check("c[i, j] = (c[i, j] * c[i, j])", {(0, 0): 1, (1, 1): 81})
        self.check("c[i, j] = (c[i, k] * c[k, j])", {(0, 0): 1, (1, 1): 81})
        self.check("v[i] = v[j]", {})
        self.check("v[i] += (v[i] * v[j])", {(0,): 3, (1,): -3})
        self.check("s[] += s[]", {(): 14})
        self.check("s[] -= s[]", {})

    def test_values_where_all_tables_are_0(self):
        self.check("z[i, j] = 4", {(0, 0): 4, (0, 1): 4, (1, 0): 4, (1, 1): 4})
        self.check("z[i, j] = (~z[j, i])", {(0, 0): -1, (0, 1): -1, (1, 0): -1, (1, 1): -1})
        self.check("z[i, j] -= equal(z[i, j], 0)", {(0, 0): -1, (0, 1): -1, (1, 0): -1, (1, 1): -1})
        self.check("s[] = equal(z[i, j], z[j, i])", {(): 4})
        self.check("s[] = 4", {(): 4})
        self.check("s[] -= 4", {(): 3})
        self.check("s[] -= 7", {})

    def test_old_values_where_the_sum_is_0(self):
        self.check("c[i, j] += z[i, j]", {(0, 0): 1, (1, 1): -9})
        self.check("c[i, j] -= z[i, j]", {(0, 0): 1, (1, 1): -9})
        self.check("c[i, j] = z[i, j]", {})
        self.check("c[i, j] += (v[i] * v[k])", {(0, 0): 1, (1, 1): -9})
        self.check("c[i, j] -= c[i, j]", {})

    def test_random_statements(self):
        chance = Random(11)
        for model in deep_models(40, 3, 21) + flat_models()[::25]:
            letters = letters_of(TARGETS[0], model)
            for sign in ASSIGNS:
                target = chance.choice([TARGETS[0], ("access", "b", ("i", "j")), ("access", "c", ()), ("access", "c", ("j",))])
                accesses = [target[1:], *model_accesses(model)]
                # A table that is accessed in two ways may need one size for unlike letters.
                twice = len(set(accesses)) > len({name for name, inside in accesses})
                sizes = {letter: 2 if twice else chance.randint(1, 3) for letter in letters}
                cells, tables = random_tables(chance, accesses, sizes)
                wanted = model_plain(target, model, sign, sizes, cells)
                if any(abs(n) > LARGEST for n in wanted.values()):
                    continue
                statement = Statement(built(target), built(model), sign)
                with self.subTest(statement.text, cells=cells):
                    self.assertEqual(plain(statement, tables), wanted)

    def test_every_form(self):
        statement = Statement.read("c[i, j] += (a[i, k] * below(b[k, j], 3))")
        a, b = {(0, 1): 3, (1, 1): -2, (1, 2): 1}, {(1, 0): 5, (2, 1): 2}
        c = {(0, 0): 4, (1, 1): 1}
        target = ("access", "c", ("i", "j"))
        model = ("times", ("access", "a", ("i", "k")), ("below", ("access", "b", ("k", "j")), ("number", 3)))
        wanted = model_plain(target, model, "+=", {"i": 2, "j": 2, "k": 3}, {"a": a, "b": b, "c": c})
        for kinds, axes in shapes(2):
            form = Form(*kinds, axes=axes)
            tables = {"a": Stored((2, 3), form, a), "b": Stored((3, 2), form, b), "c": Stored((2, 2), form, c)}
            self.assertEqual(plain(statement, tables), wanted)

    def test_the_dict_belongs_to_the_caller(self):
        tables = self.tables()
        statement = Statement.read("c[i, j] += 0")
        found = plain(statement, tables)
        found[(0, 0)] = 99
        found.clear()
        self.assertEqual(plain(statement, tables), {(0, 0): 1, (1, 1): -9})
        self.assertEqual(tables["c"][0, 0], 1)

    def test_the_dict_of_tables_stays_as_it_was(self):
        tables = self.tables()
        before = dict(tables)
        plain(Statement.read("c[i, j] = (a[i, k] * b[k, j])"), tables)
        self.assertEqual(list(tables.items()), list(before.items()))


class LargeTest(unittest.TestCase):
    def tables(self, **others):
        found = {
            "h": dense_table((3,), {(1,): LARGEST, (2,): -LARGEST}), "s": dense_table((), {(): LARGEST}),
            "v": dense_table((3,), {(0,): 1, (1,): 1, (2,): 1}), "c": dense_table((3, 3)), "o": dense_table((3,)),
        }
        return {**found, **others}

    def check_large(self, text, at, **others):
        with self.subTest(text), self.assertRaises(TooLarge) as caught:
            plain(Statement.read(text), self.tables(**others))
        self.assertEqual(caught.exception.at, at)
        self.assertIsInstance(caught.exception.at, tuple)

    def check(self, text, cells, **others):
        with self.subTest(text):
            self.assertEqual(plain(Statement.read(text), self.tables(**others)), cells)

    def test_the_least_coordinates(self):
        self.check_large("s[] += 1", ())
        self.check_large("o[i] = (h[i] * 2)", (1,))
        self.check_large("o[i] = (h[i] - v[i])", (2,))
        self.check_large("o[i] = (h[i] + v[i])", (1,))
        self.check_large("c[i, j] = (h[i] * 2)", (1, 0))
        self.check_large("c[j, i] = (h[i] * 2)", (0, 1))
        self.check_large("c[i, j] = (h[i] - h[j])", (1, 2))
        self.check_large("h[i] += v[i]", (1,))
        self.check_large("h[i] -= v[i]", (2,))
        self.check_large(f"o[i] = {10 ** 60}", (0,))
        self.check_large(f"o[i] -= {10 ** 60}", (0,))
        self.check_large("s[] = (s[] << 60)", ())

    def test_many_values(self):
        for text, at in (("c[i, j] = (u[j] * v[i])", (0, 2)), ("c[j, i] = (u[j] * v[i])", (2, 0))):
            self.check_large(text, at, u=Stored((3,), Form("packed"), {(2,): LARGEST, (1,): 1}), v=dense_table((3,), {
                (0,): 2, (1,): 3, (2,): -2,
            }))

    def test_values_that_are_just_not_large(self):
        self.check("o[i] = h[i]", {(1,): LARGEST, (2,): -LARGEST})
        self.check("o[i] -= h[i]", {(1,): -LARGEST, (2,): LARGEST})
        self.check(f"s[] = {LARGEST}", {(): LARGEST})
        self.check(f"s[] = {-LARGEST}", {(): -LARGEST})
        self.check("s[] -= 1", {(): LARGEST - 1})

    def test_large_amounts_and_sums(self):
        self.check("s[] = (h[i] * h[i])", {}, h=dense_table((3,)))
        self.check("s[] = (h[i] * 7)", {})
        self.check("s[] = (h[i] ** 3)", {})
        self.check("o[i] = remainder((h[i] * h[i]), 1000)", {(1,): 1, (2,): 1})
        self.check("s[] -= (s[] * 2)", {(): -LARGEST})
        self.check(f"s[] -= {10 ** 60}", {(): -1})
        self.check("o[i] = ((h[i] << 60) >> 60)", {(1,): LARGEST, (2,): -LARGEST})

    def test_all_tables_fit_first(self):
        with self.assertRaises(SizeClash):
            plain(Statement.read("s[] += (v[i] + c[i, j])"), self.tables(v=dense_table((2,))))

    def test_the_functions_of_expressions(self):
        tables = self.tables()
        x = at_most(access("v", "i"), 1) + below(access("o", "i"), 1) + equal(access("o", "i"), 0)
        self.assertEqual(plain(Statement(access("o", "i"), x), tables), {(0,): 3, (1,): 3, (2,): 3})
        self.assertEqual(value_of(x, {("v", ("i",)): 2, ("o", ("i",)): 2}), 0)


if __name__ == "__main__":
    unittest.main()
