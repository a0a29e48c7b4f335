"""[51] to [56]: shops and their tables, statements that are run, and programs that are offered."""

import unittest
from itertools import product

from levelwalks.counts import Counts
from levelwalks.errors import (
    BadForm, BadSizes, Illegal, KeptTable, NoBetter, NotAnAccess, NotAnExpression, NotComparable, NotPolynomial, NoTable, OutOfRange,
    Parted, RankClash, RepeatedLetter, SizeClash, TableExists, TooLarge, WalkError,
)
from levelwalks.expressions import Expression, access, number
from levelwalks.forms import Form
from levelwalks.functions import greater
from levelwalks.judging import Verdict, full, never_more
from levelwalks.making import lower
from levelwalks.programs import Block, Program
from levelwalks.programtexts import program_text, read_program
from levelwalks.running import run
from levelwalks.shops import Batch, Shop, Table
from levelwalks.statements import Statement, plain
from levelwalks.storing import Stored
from tests.helper import (
    KINDS, ONE, PRODUCT, Maker, ModelRun, each, forms_of, gains, is_deep_tuple, model_of, new_shop, snapshot, stored_tables, use,
)

LARGEST = 10 ** 60 - 1


class ShopCase(unittest.TestCase):
    def refused(self, shop, error, call, *told):
        """Check that a call raises an error that tells this, and changes nothing."""
        before = snapshot(shop)
        with self.assertRaises(error) as caught:
            call()
        self.assertIs(type(caught.exception), error)
        self.assertEqual(list(vars(caught.exception).values()), list(told))
        self.assertEqual(snapshot(shop), before)
        return caught.exception


class TablesTest(ShopCase):
    def test_names(self):
        shop = Shop()
        self.assertEqual(shop.names, ())
        self.assertNotIn("a", shop)
        made = {name: shop.table(name, (2,), Form("dense")) for name in ("zz", "b", "a", "abcdefgh", "m")}
        self.assertEqual(shop.names, ("a", "abcdefgh", "b", "m", "zz"))
        self.assertIs(type(shop.names), tuple)
        for name, table in made.items():
            self.assertIsInstance(table, Table)
            self.assertIs(shop[name], table)
            self.assertIs(name in shop, True)
        self.assertIs("q" in shop, False)
        self.assertIs("z" in shop, False)
        for name in ("q", "z", "A"):
            self.refused(shop, NoTable, lambda: shop[name], name)

    def test_two_shops(self):
        first, second = new_shop(), Shop()
        self.assertEqual(second.names, ())
        second.table("a", (), Form())
        self.assertEqual((first["a"].sizes, second["a"].sizes), ((3, 3), ()))

    def test_attributes_and_properties(self):
        shop, form = Shop(), Form("packed", "dense", axes=(1, 0))
        cells = {(0, 1): 4, (1, 2): 0, (1, 1): -3}
        table = shop.table("a", [2, 3], form, cells)
        self.assertEqual((table.name, table.sizes), ("a", (2, 3)))
        self.assertIs(type(table.sizes), tuple)
        self.assertIsInstance(table.stored, Stored)
        self.assertEqual(dict(table.stored.entries()), {(0, 1): 4, (1, 1): -3})
        self.assertEqual((table.form.text, table.stored.form.text), ("packed 1, dense 0",) * 2)
        self.assertIs(table.kept, False)
        self.assertEqual(cells, {(0, 1): 4, (1, 2): 0, (1, 1): -3})
        cells[(0, 0)] = 9
        self.assertEqual(table[0, 0], 0)
        other = shop.table(cells={(): 7}, form=Form(), sizes=(), name="s")
        self.assertEqual((other.stored[()], other.sizes), (7, ()))
        for made in (shop.table("b", (2,), Form("bits")), shop.table("d", (2,), Form("bits"), None), shop.table("e", (2,), Form("bits"), {})):
            self.assertEqual(len(made), 0)

    def test_wrong_tables(self):
        shop = new_shop()
        two = Form("dense", "packed")
        for name, sizes, form, cells, error, told in (
            ("a", (0,), Form(), {(9,): 10 ** 70}, TableExists, ["a"]), ("a", (3, 3), two, None, TableExists, ["a"]),
            ("q", (0, 2), Form(), {}, BadSizes, []), ("q", (7,), Form("dense"), {}, BadSizes, []), ("q", (1,) * 4, Form(), {}, BadSizes, []),
            ("q", (2, 2), Form("dense"), {(9,): 1}, BadForm, []), ("q", (), two, None, BadForm, []),
            ("q", (2, 2), two, {(0, 2): 1}, OutOfRange, [(0, 2)]), ("q", (2, 2), two, {(1, 1): 10 ** 60}, TooLarge, [(1, 1)]),
            ("q", (2, 2), two, {(1, 1): -(10 ** 60), (0, 2): 0}, OutOfRange, [(0, 2)]), ("q", (), Form(), {(): 10 ** 60}, TooLarge, [()]),
        ):
            self.refused(shop, error, lambda: shop.table(name, sizes, form, cells), *told)
            self.assertNotIn("q", shop)

    def test_forms(self):
        shop = new_shop()
        a, cells = shop["a"], dict(shop["a"].stored.entries())
        for number_of, kinds in enumerate(product(KINDS, repeat=2)):
            form = Form(*kinds, axes=(number_of % 2, 1 - number_of % 2))
            if number_of % 3:
                a.form = form
            elif number_of % 2:
                self.assertIsNone(shop.reform("a", form))
            else:
                self.assertIsNone(shop.reform(form=form, name="a"))
            self.assertEqual((a.form.text, a.stored.form.text), (form.text, form.text))
            self.assertEqual({at: n for at, n in a.stored.entries()}, cells)
            self.assertEqual(a.stored.levels, Stored((3, 3), form, cells).levels)
        self.assertEqual((shop.spent.turns, shop.spent.additions), (0, 0))
        for wrong in (Form(), Form("dense"), Form("dense", "dense", "dense")):
            self.refused(shop, BadForm, lambda: shop.reform("a", wrong))
            self.refused(shop, BadForm, lambda: setattr(a, "form", wrong))
            self.refused(shop, NoTable, lambda: shop.reform("q", wrong), "q")

    def test_properties_cannot_be_assigned(self):
        shop = new_shop()
        for name, what in (("stored", shop["b"].stored), ("kept", True)):
            with self.assertRaises(AttributeError):
                setattr(shop["a"], name, what)
        for name in ("names", "spent"):
            with self.assertRaises(AttributeError):
                setattr(shop, name, ())


class ItemsTest(ShopCase):
    def test_accesses(self):
        shop = new_shop()
        for made, name, letters in (
            (shop["a"]["i", "k"], "a", ("i", "k")), (shop["a"][["z", "a"]], "a", ("z", "a")), (shop["b"]["k"], "b", ("k",)),
            (shop["b"]["k",], "b", ("k",)), (shop["b"][["k"]], "b", ("k",)), (shop["s"][()], "s", ()), (shop["s"][[]], "s", ()),
        ):
            self.assertIsInstance(made, Expression)
            self.assertEqual(model_of(made), ("access", name, letters))
            self.assertTrue(is_deep_tuple(made.parts))

    def test_wrong_letters(self):
        shop = new_shop()
        for name, letters, error, told in (
            ("a", "i", RankClash, "a"), ("a", (), RankClash, "a"), ("a", ("i", "k", "l"), RankClash, "a"), ("b", (), RankClash, "b"),
            ("b", ("i", "i"), RankClash, "b"), ("s", "i", RankClash, "s"), ("s", ("i",), RankClash, "s"), ("a", ("i", "i"), RepeatedLetter, "i"),
            ("a", ("k",), RankClash, "a"), ("b", [], RankClash, "b"),
        ):
            self.refused(shop, error, lambda: shop[name][letters], told)
            for worth in (number(1), 5, access("b", "i"), access("q")):
                if not (name == "s" and letters == ()):
                    self.refused(shop, error, lambda: shop[name].__setitem__(letters, worth), told)

    def test_values(self):
        shop = new_shop()
        self.assertEqual((shop["a"][0, 1], shop["a"][2, 2], shop["a"][[1, 2]]), (5, 0, 7))
        self.assertEqual((shop["b"][1], shop["b"][1,], shop["b"][[1]], shop["b"][0]), (10, 10, 10, 0))
        self.assertEqual(shop["s"].stored[()], 4)
        for name, at, told in (
            ("a", (0, 3), (0, 3)), ("a", (0,), (0,)), ("a", 0, (0,)), ("a", (-1, 0), (-1, 0)), ("a", (0, 0, 0), (0, 0, 0)), ("b", 3, (3,)),
            ("b", (0, 0), (0, 0)), ("b", -1, (-1,)), ("s", 0, (0,)), ("s", (0, 0), (0, 0)), ("a", [3, 3], (3, 3)),
        ):
            self.refused(shop, OutOfRange, lambda: shop[name][at], told)

    def test_in_and_len(self):
        shop = new_shop()
        for name in ("a", "b", "c", "s"):
            table, cells = shop[name], dict(shop[name].stored.entries())
            self.assertEqual(len(table), len(cells))
            for at in product(range(-1, 4), repeat=len(table.sizes)):
                self.assertIs(at in table, at in cells)
                self.assertIs(list(at) in table, at in cells)
            self.assertIs((0, 0, 0) in table, False)
        self.assertIs((0,) in shop["a"], False)
        self.assertIs(() in shop["s"], True)

    def test_shops_and_tables_are_not_iterated(self):
        for whole in (new_shop(), new_shop()["a"]):
            with self.assertRaises(TypeError):
                iter(whole)

    def check_value(self, shop, name, at, value):
        table, wanted = shop[name], {each: dict(shop[each].stored.entries()) for each in shop.names}
        forms = {each: shop[each].form.text for each in shop.names}
        place = at if isinstance(at, (tuple, list)) else (at,)
        table[at] = value
        wanted[name][tuple(place)] = value
        wanted[name] = {place: n for place, n in wanted[name].items() if n != 0}
        self.assertEqual({each: dict(shop[each].stored.entries()) for each in shop.names}, wanted)
        self.assertEqual({each: shop[each].form.text for each in shop.names}, forms)
        self.assertEqual(table.stored.levels, Stored(table.sizes, table.form, wanted[name]).levels)

    def test_values_that_are_set(self):
        for putting in (False, True):
            shop = new_shop()
            if putting:
                Table.__setitem__, old = (lambda table, at, value: self.assertIsNone(table.shop.put(table.name, at, value))), Table.__setitem__
            try:
                for name, at, value in (
                    ("a", (0, 0), 3), ("a", (0, 1), -5), ("a", [0, 1], 0), ("a", (2, 2), LARGEST), ("b", 0, 1), ("b", (1,), 0), ("b", [2], -LARGEST),
                    ("b", 2, -LARGEST), ("s", (), 9), ("s", (), 0), ("s", [], -1), ("c", 1, 0), ("c", 1, 10 ** 59),
                ):
                    self.check_value(shop, name, at, value)
            finally:
                if putting:
                    Table.__setitem__ = old
            self.assertEqual((shop.spent.turns, shop.spent.additions), (0, 0))

    def test_put_by_keyword(self):
        shop = new_shop()
        shop.put(value=8, at=[1, 1], name="a")
        self.assertEqual(shop["a"][1, 1], 8)

    def test_values_that_are_changed_in_place(self):
        shop = new_shop()
        shop["a"][0, 1] += 10
        shop["b"][1] -= 3
        shop["b"][0] += 1
        self.assertEqual((shop["a"][0, 1], shop["b"][1], shop["b"][0]), (15, 7, 1))

    def test_wrong_values(self):
        shop = new_shop()
        shop.keep(Statement(access("c", "i"), access("b", "i")))
        for name, at, value, error, told in (
            ("c", (9, 9), 10 ** 60, KeptTable, "c"), ("c", 0, 1, KeptTable, "c"), ("c", 9, 1, KeptTable, "c"),
            ("a", (0, 3), 10 ** 60, OutOfRange, (0, 3)), ("a", (0,), 1, OutOfRange, (0,)), ("a", 0, 1, OutOfRange, (0,)), ("b", -1, 0, OutOfRange, (-1,)),
            ("b", 3, 10 ** 60, OutOfRange, (3,)), ("b", (0, 0), 1, OutOfRange, (0, 0)), ("s", 0, 1, OutOfRange, (0,)), ("a", (2, 2), 10 ** 60, TooLarge, (2, 2)),
            ("b", 2, -(10 ** 60), TooLarge, (2,)), ("s", (), 10 ** 60, TooLarge, ()), ("b", [1], 10 ** 61, TooLarge, (1,)),
        ):
            self.refused(shop, error, lambda: shop[name].__setitem__(at, value), told)
            self.refused(shop, error, lambda: shop.put(name, at, value), told)
            self.refused(shop, NoTable, lambda: shop.put("q", at, value), "q")


class AssignTest(ShopCase):
    def check(self, assign, text, *made):
        """Check that an assignment in a shop does what a statement does."""
        shop, other = new_shop(), new_shop()
        statement = Statement.read(text)
        wanted = plain(statement, stored_tables(shop))
        assign(shop)
        counts = other.run(statement)
        self.assertEqual(dict(shop[statement.target.parts[0]].stored.entries()), wanted)
        self.assertEqual(snapshot(shop), snapshot(other))
        self.assertTrue(shop.spent == counts)

    def test_expressions(self):
        def product_of(shop):
            shop["c"]["i"] = shop["a"]["i", "k"] * shop["b"]["k"]

        def several(shop):
            shop["a"]["k", "i"] = shop["a"]["i", "k"] + access("s")

        def by_list(shop):
            shop["a"][["k", "i"]] = number(3)

        def total(shop):
            shop["s"][()] = shop["b"]["k"] * 2

        self.check(product_of, "c[i] = (a[i, k] * b[k])")
        self.check(several, "a[k, i] = (a[i, k] + s[])")
        self.check(by_list, "a[k, i] = 3")
        self.check(total, "s[] = (b[k] * 2)")

    def test_integers(self):
        def whole(shop):
            shop["c"]["i"] = 7

        def in_a_tuple(shop):
            shop["a"]["i", "k"] = 0

        self.check(whole, "c[i] = 7")
        self.check(in_a_tuple, "a[i, k] = 0")

    def test_gains_and_losses(self):
        def gain(shop):
            shop["c"]["i"] += shop["a"]["i", "k"]

        def loss(shop):
            shop["c"]["i"] -= shop["a"]["i", "k"] * 2

        def gain_of_a_number(shop):
            shop["b"]["z"] += 3

        def loss_of_a_number(shop):
            shop["a"]["i", "k"] -= 3

        def without_axes(shop):
            shop["s"][()] += shop["b"]["k"]

        def a_number_without_axes(shop):
            shop["s"][()] -= 9

        self.check(gain, "c[i] += a[i, k]")
        self.check(loss, "c[i] -= (a[i, k] * 2)")
        self.check(gain_of_a_number, "b[z] += 3")
        self.check(loss_of_a_number, "a[i, k] -= 3")
        self.check(without_axes, "s[] += b[k]")
        self.check(a_number_without_axes, "s[] -= 9")

    def test_the_empty_tuple(self):
        shop = new_shop()
        shop["s"][()] = 12
        self.assertEqual((shop["s"].stored[()], shop.spent.additions), (12, 0))
        shop["s"][()] = number(5)
        self.assertEqual((shop["s"].stored[()], shop.spent.additions), (5, 1))
        self.refused(shop, RankClash, lambda: shop["b"].__setitem__((), 3), "b")
        self.refused(shop, RankClash, lambda: shop["b"].__setitem__((), number(3)), "b")

    def test_gains_of_other_accesses(self):
        shop = new_shop()
        for name, letters, target in (
            ("c", ("i",), access("c", "k")), ("c", ("i",), access("b", "i")), ("a", ("i", "k"), access("a", "k", "i")), ("s", (), access("c", "i")),
            ("c", ("i",), access("q")), ("b", ("i",), access("b")),
        ):
            gain = loss = target
            gain += 1
            loss -= access("q")
            for wrong in (gain, loss):
                self.refused(shop, NotAnExpression, lambda: shop[name].__setitem__(letters, wrong))
        for wrong in gains():
            self.refused(shop, NotAnExpression, lambda: shop["b"].__setitem__("i", wrong))
            self.refused(shop, RankClash, lambda: shop["b"].__setitem__((), wrong), "b")
            self.refused(shop, NotAnAccess, lambda: wrong.__iadd__(1))

    def test_gains_do_not_change_by_being_made(self):
        shop = new_shop()
        before = snapshot(shop)
        gain = shop["c"]["i"]
        gain += shop["b"]["i"]
        self.assertEqual(snapshot(shop), before)
        shop["c"]["i"] = gain
        self.assertEqual(dict(shop["c"].stored.entries()), {(0,): 1, (1,): 12, (2,): 1})

    def test_the_errors_of_statements(self):
        shop = new_shop()
        shop.table("f", (2,), Form("bits"))
        shop.keep(Statement(access("c", "i"), access("b", "i")))
        for name, letters, worth, error, told in (
            ("c", "i", access("q"), NoTable, ["q"]), ("b", "i", access("a", "i"), RankClash, ["a"]), ("b", "i", access("f", "i"), SizeClash, ["i"]),
            ("c", "i", access("f", "i"), SizeClash, ["i"]), ("c", "i", number(1), KeptTable, ["c"]), ("c", "i", 1, KeptTable, ["c"]),
            ("c", "i", number(10 ** 60), KeptTable, ["c"]), ("b", "i", number(10 ** 60), TooLarge, [(0,)]), ("s", (), number(10 ** 60), TooLarge, [()]),
        ):
            self.refused(shop, error, lambda: shop[name].__setitem__(letters, worth), *told)


class RunTest(ShopCase):
    def check(self, shop, statement):
        tables, forms, spent = stored_tables(shop), forms_of(shop), shop.spent
        program = lower(statement, {name: shop[name].form for name, letters in statement.expression.accesses})
        wanted, result = plain(statement, tables), ModelRun(program, tables)
        counts = shop.run(statement)
        self.assertIsInstance(counts, Counts)
        self.assertEqual((counts.turns, counts.additions), (len(result.bindings), len(result.trace)))
        self.assertTrue(shop.spent == spent + counts)
        name = statement.target.parts[0]
        self.assertEqual(dict(shop[name].stored.entries()), wanted)
        self.assertEqual(forms_of(shop), forms)
        for other in shop.names:
            if other != name:
                self.assertEqual(shop[other].stored.data, tables[other].data)

    def test_results_are_the_plain_ones(self):
        for text in (
            "c[i] = (a[i, k] * b[k])", "c[i] += (a[i, k] * b[k])", "c[i] -= (a[i, k] * b[k])", "c[i] = (a[i, k] + b[k])", "a[i, k] = a[k, i]",
            "a[i, k] += (a[i, j] * a[j, k])", "s[] = a[i, k]", "s[] += s[]", "s[] -= (s[] + 1)", "a[i, k] = 0", "b[k] = (b[k] - b[k])",
            "a[i, k] = (b[i] * b[k])", "a[i, k] = greater(b[i], b[k])", "c[i] = (~b[i])", "b[k] -= equal(b[k], 0)", "s[] = 3", "c[z] += 5",
        ):
            self.check(new_shop(), Statement.read(text))

    def test_many_statements_in_one_shop(self):
        maker = Maker(7, "ik")
        pool = [("a", ("i", "k")), ("a", ("k", "i")), ("b", ("k",)), ("b", ("i",)), ("s", ()), ("c", ("i",))]
        shop = new_shop()
        for attempt in range(80):
            target = maker.chance.choice([access(name, *letters) for name, letters in pool])
            expression = maker.polynomial(maker.chance.sample(pool, 2), 2)
            expression = expression % 5 - 1 if attempt % 4 == 0 else expression % 7
            shop = shop if attempt % 10 else new_shop()
            self.check(shop, Statement(target, expression, maker.chance.choice(["=", "+=", "-="])))

    def test_by_keyword(self):
        shop = new_shop()
        shop.run(statement=PRODUCT)
        self.assertEqual(shop["c"][0], 50)
        shop.keep(statement=Statement(access("s"), access("b", "k")))
        self.assertIsInstance(shop.standing(statement=PRODUCT), Program)
        shop.together(steps=[])

    def test_the_errors_in_their_order(self):
        shop = new_shop()
        shop.table("f", (2,), Form("bits"))
        shop.keep(Statement(access("c", "i"), access("b", "i")))
        for text, error, told in (
            ("q[] = r[]", NoTable, "q"), ("c[] = q[]", RankClash, "c"), ("c[i] = q[]", NoTable, "q"), ("c[i] = a[i]", RankClash, "a"),
            ("c[i] = (f[i] + a[k, i])", SizeClash, "i"), ("c[i] = 1", KeptTable, "c"), ("c[i] += 1000000000000000000000000000000000000000000000000000000000000", KeptTable, "c"),
            ("b[k] = " + str(10 ** 60), TooLarge, (0,)), ("b[k] -= (b[k] * " + str(10 ** 60) + ")", TooLarge, (1,)),
            ("a[k, i] = (b[k] * " + str(10 ** 60) + ")", TooLarge, (1, 0)), ("a[k, i] = (b[i] * " + str(10 ** 60) + ")", TooLarge, (0, 1)),
        ):
            self.refused(shop, error, lambda: shop.run(Statement.read(text)), told)

    def test_sums_that_are_large_are_none_if_the_new_value_is_not(self):
        shop = new_shop()
        shop["s"][()] = -LARGEST
        shop.run(Statement(access("s"), number(10 ** 60), "+="))
        self.assertEqual(shop["s"].stored[()], 1)
        shop["b"][0] = LARGEST
        shop.run(Statement(access("b", "k"), access("b", "k") * 2, "-="))
        self.assertEqual(shop["b"][0], -LARGEST)

    def test_all_values_are_read_before_any_is_changed(self):
        shop = new_shop()
        shop["b"]["i"] = shop["b"]["j"] + shop["b"]["i"]
        self.assertEqual(dict(shop["b"].stored.entries()), {(0,): 11, (1,): 41, (2,): 14})


class StandingTest(ShopCase):
    def test_it_is_made_when_it_is_needed_first(self):
        for need in (lambda shop: shop.standing(PRODUCT), lambda shop: shop.run(PRODUCT), lambda shop: shop.keep(PRODUCT)):
            shop = new_shop()
            shop["a"].form = Form("packed", "packed", axes=(1, 0))
            wanted = program_text(lower(PRODUCT, {name: shop[name].form for name in "ab"}))
            need(shop)
            shop["a"].form = Form("dense", "bits")
            self.assertEqual(program_text(shop.standing(PRODUCT)), wanted)
            self.assertIs(shop.standing(PRODUCT), shop.standing(PRODUCT))

    def test_other_signs_have_the_same_one(self):
        shop = new_shop()
        made = shop.standing(PRODUCT)
        shop["b"].form = Form("hashed")
        for sign in ("=", "+=", "-="):
            self.assertIs(shop.standing(Statement(PRODUCT.target, PRODUCT.expression, sign)), made)
        for other in (
            Statement(access("c", "k"), access("a", "k", "i") * access("b", "i")), Statement(PRODUCT.target, access("b", "k") * access("a", "i", "k")),
            Statement(access("b", "i"), PRODUCT.expression), Statement(PRODUCT.target, access("a", "i", "k") + access("b", "k")),
        ):
            program = shop.standing(other)
            self.assertEqual(program_text(program), program_text(lower(other, {name: shop[name].form for name in "ab"})))

    def test_a_call_that_is_refused_makes_none(self):
        shop = new_shop()
        shop["s"][()] = LARGEST
        gaining = Statement(access("s"), access("b", "k"), "+=")
        self.refused(shop, TooLarge, lambda: shop.run(gaining), ())
        shop["b"].form = Form("bits")
        self.assertIn("bits", program_text(shop.standing(gaining)))
        shop = new_shop()
        right_program = lower(PRODUCT, {"a": Form("dense", "dense"), "b": Form("dense")})
        with self.assertRaises(NoBetter):
            shop.offer(PRODUCT, right_program)
        shop["b"].form = Form("bits")
        self.assertIn("bits", program_text(shop.standing(PRODUCT)))

    def test_the_errors(self):
        shop = new_shop()
        shop.table("f", (2,), Form("bits"))
        for text, error, told in (("q[] = r[]", NoTable, "q"), ("c[] = q[]", RankClash, "c"), ("c[i] = (f[i] + a[k, i])", SizeClash, "i")):
            self.refused(shop, error, lambda: shop.standing(Statement.read(text)), told)

    def test_a_run_makes_its_turns(self):
        shop = new_shop()
        program = shop.standing(PRODUCT)
        self.assertTrue(run(program, stored_tables(shop)).counts == shop.run(PRODUCT))


SUM = Statement(access("c", "i"), access("a", "i", "k") + access("b", "k"))


class OfferTest(ShopCase):
    def loose(self):
        """A shop in which the standing program of the statement makes more turns than it need."""
        shop = new_shop()
        for name in "ab":
            shop[name].form = Form(*["dense"] * len(shop[name].sizes))
        shop.standing(PRODUCT)
        shop.standing(SUM)
        return shop

    def test_offers_that_are_taken(self):
        shop = self.loose()
        before = snapshot(shop)
        better = lower(PRODUCT, {"a": Form("dense", "packed"), "b": Form("dense")})
        best = lower(PRODUCT, {"a": Form("dense", "packed"), "b": Form("bits")})
        for number_of, program in enumerate((better, best)):
            if number_of:
                self.assertIsNone(shop.offer(PRODUCT, program))
            else:
                self.assertIsNone(shop.offer(program=program, statement=PRODUCT))
            for sign in ("=", "+=", "-="):
                self.assertIs(shop.standing(Statement(PRODUCT.target, PRODUCT.expression, sign)), program)
        self.assertEqual(snapshot(shop), before)
        tables = stored_tables(shop)
        counts = shop.run(PRODUCT)
        self.assertTrue(counts == run(best, tables).counts)
        self.assertEqual(dict(shop["c"].stored.entries()), plain(PRODUCT, tables))

    def check_no_better(self, shop, statement, program):
        standing = shop.standing(statement)
        verdict = self.refused_verdict(shop, NoBetter, statement, program)
        first = never_more(program, standing)
        wanted = never_more(standing, program) if first.holds else first
        self.assertEqual(vars(verdict), vars(wanted))
        self.assertIs(shop.standing(statement), standing)
        return verdict

    def refused_verdict(self, shop, error, statement, program):
        before = snapshot(shop)
        with self.assertRaises(error) as caught:
            shop.offer(statement, program)
        self.assertEqual(snapshot(shop), before)
        self.assertIsInstance(caught.exception.verdict, Verdict)
        return caught.exception.verdict

    def test_offers_that_are_no_better(self):
        shop = self.loose()
        better = lower(PRODUCT, {"a": Form("dense", "packed"), "b": Form("dense")})
        shop.offer(PRODUCT, better)
        self.assertFalse(self.check_no_better(shop, PRODUCT, full(PRODUCT)))
        self.assertTrue(self.check_no_better(shop, PRODUCT, better))
        self.assertTrue(self.check_no_better(shop, PRODUCT, read_program(program_text(better))))
        other = lower(PRODUCT, {"a": Form("dense", "dense"), "b": Form("packed")})
        self.assertEqual(self.check_no_better(shop, PRODUCT, other).what, "turns")

    def test_offers_that_are_not_right(self):
        shop = self.loose()
        text = program_text(lower(PRODUCT, {"a": Form("dense", "packed"), "b": Form("packed")}))
        for old, new in (("* b[k]", "+ b[k]"), ("in 0 1", "in none"), ("add (", "add (2 * (")):
            program = read_program(text.replace(old, new) + (")" if new == "add (2 * (" else ""))
            standing = shop.standing(PRODUCT)
            verdict = self.refused_verdict(shop, Parted, PRODUCT, program)
            self.assertIs(verdict.holds, False)
            tables = {name: Stored((verdict.sizes,) * len(shop[name].sizes), shop[name].form, cells) for name, cells in verdict.cells.items()}
            self.assertEqual(ModelRun(program, tables).sum_at(verdict.point), verdict.numbers[0])
            self.assertEqual(ModelRun(full(PRODUCT), tables).sum_at(verdict.point), verdict.numbers[1])
            self.assertNotEqual(*verdict.numbers)
            self.assertIs(shop.standing(PRODUCT), standing)

    def test_uses_that_the_statement_has_not(self):
        shop = self.loose()
        text = program_text(lower(PRODUCT, {"a": Form("dense", "packed"), "b": Form("packed")}))
        for line in ("use b[i] packed 0", "use a[k, i] dense 0, dense 1", "use s[] -", "use q[] -", "use c[i] dense 0"):
            program = read_program(text.replace("each i", line + "\neach i", 1))
            self.refused(shop, NotComparable, lambda: shop.offer(PRODUCT, program))
            wrong = read_program(text.replace("each i", line + "\neach i", 1).replace("* b[k]", "+ b[k]"))
            self.refused(shop, NotComparable, lambda: shop.offer(PRODUCT, wrong))
        twice = read_program(text.replace("each i", "use b[k] hashed 0\neach i", 1))
        shop.offer(PRODUCT, twice)
        self.assertIs(shop.standing(PRODUCT), twice)

    def test_fewer_uses_than_accesses(self):
        shop = self.loose()
        statement = Statement(access("c", "i"), access("b", "i") * 2 + access("s") * 0)
        shop.standing(statement)
        program = Program(access("c", "i"), (use("b", "i", "packed 0"),), each("i", full(Statement(access("c", "i"), access("b", "i") * 2)).node.cases[0][1], ((0,),)))
        shop.offer(statement, program)
        shop.run(statement)
        self.assertEqual(dict(shop["c"].stored.entries()), {(1,): 20, (2,): 2})

    def test_the_errors_in_their_order(self):
        shop = self.loose()
        shop.table("f", (2,), Form("bits"))
        illegal = Program(access("d", "i"), (), ONE)
        i = access("c", "i")
        for statement, program, error, told in (
            (Statement(access("q"), access("r")), illegal, NoTable, ["q"]), (Statement(i, access("a", "i")), illegal, RankClash, ["a"]),
            (Statement(i, access("f", "i")), illegal, SizeClash, ["i"]), (Statement(i, ~access("b", "i")), illegal, Illegal, [()]),
            (Statement(i, ~access("b", "i")), Program(access("c", "k"), (), each("k", ONE)), NotComparable, []),
            (Statement(i, ~access("b", "i")), Program(i, (use("b", "", "-"),), each("i", ONE)), RankClash, ["b"]),
            (Statement(i, ~access("b", "i")), Program(i, (use("s", "", "-"),), each("i", ONE)), NotPolynomial, []),
            (Statement(i, access("b", "i")), Program(i, (use("s", "", "-"),), each("i", ONE)), NotComparable, []),
            (Statement(i, access("b", "i")), Program(i, (use("c", "i", "dense 0"),), each("i", ONE)), NotComparable, []),
        ):
            self.refused(shop, error, lambda: shop.offer(statement, program), *told)
        self.refused_verdict(shop, Parted, Statement(i, access("b", "i")), Program(i, (), each("i", ONE)))
        self.refused_verdict(shop, Parted, Statement(i, access("b", "i")), Program(i, (), Block(())))

    def test_an_offer_for_a_statement_that_was_never_run(self):
        shop = new_shop()
        for name in "ab":
            shop[name].form = Form(*["dense"] * len(shop[name].sizes))
        better = lower(PRODUCT, {"a": Form("dense", "packed"), "b": Form("dense")})
        shop.offer(PRODUCT, better)
        shop["a"].form = Form("packed", "packed")
        self.assertIs(shop.standing(PRODUCT), better)

    def test_statements_without_polynomials_keep_their_programs(self):
        shop = self.loose()
        statement = Statement(access("c", "i"), greater(access("b", "i"), 0))
        self.refused(shop, NotPolynomial, lambda: shop.offer(statement, full(statement)))
        self.assertIsInstance(shop.standing(statement), Program)

    def test_whatever_is_offered_results_are_plain(self):
        maker, shop, taken = Maker(71), self.loose(), 0
        for attempt in range(300):
            statement = (PRODUCT, SUM)[attempt % 2]
            program = lower(statement, {"a": maker.form(2), "b": maker.form(1)}, maker.chance.choice([None, ("i", "k"), ("k", "i")]))
            try:
                shop.offer(statement, program)
                taken += 1
            except NoBetter:
                pass
            with self.assertRaises(WalkError):
                shop.offer(statement, maker.program(statement.target, program.uses))
            tables = stored_tables(shop)
            shop.run(statement)
            self.assertEqual(dict(shop["c"].stored.entries()), plain(statement, tables))
        self.assertGreater(taken, 2)


class KindsTest(unittest.TestCase):
    def test_kinds_of_values(self):
        shop = new_shop()
        self.assertIsInstance(shop.spent, Counts)
        self.assertIsInstance(shop.batch(), Batch)
        self.assertIsNone(shop.together(()))
        self.assertIsInstance(shop.standing(PRODUCT), Program)
        self.assertIs(type(len(shop["a"])), int)
        self.assertIs(type(shop["a"][0, 1]), int)

    def test_spent_does_not_change_by_what_the_caller_does(self):
        shop = new_shop()
        spent = shop.spent
        spent += Counts(5, 5)
        self.assertTrue(shop.spent == Counts())
        shop.run(PRODUCT)
        before = shop.spent
        shop.run(PRODUCT)
        self.assertTrue(before < shop.spent)
        self.assertTrue(before + before == shop.spent)


if __name__ == "__main__":
    unittest.main()
