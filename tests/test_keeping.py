"""[57] to [60]: kept tables, what is spent, and batches."""

import unittest
from itertools import product

from levelwalks.errors import (
    KeepRing, KeptFailed, KeptTable, NoBetter, NotAnExpression, NotKeepable, NoTable, OutOfRange, RankClash, RepeatedLetter, SizeClash,
    TableExists, TooLarge, WalkError,
)
from levelwalks.expressions import access, number
from levelwalks.forms import Form
from levelwalks.making import lower
from levelwalks.programtexts import program_text
from levelwalks.shops import Batch, Shop
from levelwalks.statements import Statement, plain
from tests.helper import PRODUCT, Maker, ModelRun, forms_of, new_shop, snapshot, stored_tables, use

LARGEST = 10 ** 60 - 1
C, D, E = access("c", "i"), access("d", "i"), access("e", "i")


def more_tables(shop, names="defgh"):
    for name in names:
        shop.table(name, (3,), Form("packed"), {(0,): 7})
    return shop


def entries(shop, name):
    return dict(shop[name].stored.entries())


def agreeing(statement, before, after):
    """The points of a statement at which the table of some access has changed its value."""
    sizes = {}
    for name, letters in [statement.target.parts, *statement.expression.accesses]:
        sizes.update(zip(letters, after[name].sizes))
    found = set()
    for point in product(*(range(sizes[letter]) for letter in statement.letters)):
        spot = dict(zip(statement.letters, point))
        for name, letters in statement.expression.accesses:
            at = tuple(spot[letter] for letter in letters)
            if before[name][at] != after[name][at]:
                found.add(point)
    return found


class ShopCase(unittest.TestCase):
    def refused(self, shop, error, call, *told):
        """Check that a call raises an error that tells this, and changes nothing."""
        before, handles = snapshot(shop), [shop[name] for name in shop.names]
        with self.assertRaises(error) as caught:
            call()
        self.assertIs(type(caught.exception), error)
        self.assertEqual(list(vars(caught.exception).values()), list(told))
        self.assertEqual(snapshot(shop), before)
        for handle in handles:
            self.assertIs(shop[handle.name], handle)
        return caught.exception

    def check_kept(self, shop, keepers):
        """Check that each kept table has the cells that its statement would give it."""
        for name in shop.names:
            self.assertIs(shop[name].kept, name in keepers)
        for name, statement in keepers.items():
            self.assertEqual(entries(shop, name), plain(statement, stored_tables(shop)), statement.text)

    def check_call(self, shop, keepers, call, runs=True):
        """Check what a call changes and spends, where `runs` tells whether it runs a statement and returns its counts."""
        before, spent, forms = stored_tables(shop), shop.spent, forms_of(shop)
        counts = call()
        after = stored_tables(shop)
        self.check_kept(shop, keepers)
        self.assertEqual(forms_of(shop), forms)
        additions = 0
        for name, statement in keepers.items():
            points = agreeing(statement, before, after)
            program = shop.standing(statement)
            for tables in (before, after):
                additions += sum(point in points for point, amount in ModelRun(program, tables).trace)
        turns = counts.turns if runs else 0
        additions += counts.additions if runs else 0
        self.assertEqual((shop.spent.turns - spent.turns, shop.spent.additions - spent.additions), (turns, additions))


class KeepTest(ShopCase):
    def test_one_kept_table(self):
        shop = new_shop()
        program = lower(PRODUCT, {name: shop[name].form for name in "ab"})
        result = ModelRun(program, stored_tables(shop))
        counts = shop.keep(PRODUCT)
        self.assertEqual((counts.turns, counts.additions), (len(result.bindings), len(result.trace)))
        self.assertTrue(shop.spent == counts)
        keepers = {"c": PRODUCT}
        self.check_kept(shop, keepers)
        self.assertEqual(shop["c"].form.text, "dense 0")
        for name, at, value in (
            ("a", (0, 1), 6), ("a", (2, 2), 3), ("b", 1, 0), ("b", 0, 5), ("a", (0, 1), 0), ("a", (0, 1), 0), ("b", 2, 1), ("s", (), 9), ("b", 2, -4),
        ):
            self.check_call(shop, keepers, lambda: shop[name].__setitem__(at, value), False)
            self.check_call(shop, keepers, lambda: shop.put(name, at, value), False)
        for text in ("b[k] += 2", "a[i, k] = a[k, i]", "a[i, k] = 0", "b[k] = b[k]", "s[] = 3", "a[i, k] -= (b[i] * b[k])", "b[k] = b[i]"):
            self.check_call(shop, keepers, lambda: shop.run(Statement.read(text)))

    def test_assignments(self):
        shop = new_shop()
        keepers = {"c": PRODUCT}
        shop.keep(PRODUCT)

        def gain():
            shop["b"]["k"] += shop["a"]["i", "k"]

        def whole():
            shop["a"]["i", "k"] = 2

        for call in (gain, whole, gain):
            before = stored_tables(shop)
            spent, turns = shop.spent.additions, shop.spent.turns
            call()
            self.check_kept(shop, keepers)
            self.assertGreater(shop.spent.additions, spent)
            self.assertGreater(shop.spent.turns, turns)
            points = agreeing(PRODUCT, before, stored_tables(shop))
            self.assertGreater(len(points), 0)

    def test_forms_do_not_matter(self):
        shop = new_shop()
        shop.keep(PRODUCT)
        standing = shop.standing(PRODUCT)
        for form in (Form("hashed"), Form("dense"), Form("bits")):
            shop["c"].form = form
            shop["b"].form = form
            self.check_call(shop, {"c": PRODUCT}, lambda: shop["b"].__setitem__(0, len(form.text)), False)
            self.assertIs(shop.standing(PRODUCT), standing)
            self.assertEqual(shop["c"].form.text, form.text)

    def test_chains(self):
        shop = more_tables(new_shop())
        keepers = {}
        for target, expression in (
            ("e", access("d", "i") + access("b", "i")), ("d", access("a", "i", "k") * access("b", "k")), ("h", access("s") * access("b", "i")),
            ("c", access("d", "i") * access("e", "i") - access("d", "k")), ("s", access("c", "i") + access("e", "i")),
        ):
            statement = Statement(access(target) if target == "s" else access(target, "i"), expression)
            keepers[target] = statement
            if target == "s":
                self.refused(shop, KeptTable, lambda: shop.put("e", 0, 1), "e")
            shop.keep(statement)
            self.check_kept(shop, keepers)
        for name, at, value in (("b", 0, 3), ("a", (0, 1), -1), ("a", (0, 1), -1), ("b", 1, 0), ("b", 0, 0), ("a", (2, 0), 1), ("f", 0, 5)):
            self.check_call(shop, keepers, lambda: shop.put(name, at, value), False)
        self.check_call(shop, keepers, lambda: shop.run(Statement.read("a[i, k] = (a[k, i] + b[k])")))
        self.check_call(shop, keepers, lambda: shop.run(Statement.read("b[i] -= a[i, k]")))

    def test_keeping_a_table_on_which_others_depend(self):
        shop = more_tables(new_shop())
        keepers = {"d": Statement(D, C * C), "e": Statement(E, D + C)}
        for statement in keepers.values():
            shop.keep(statement)
        before, spent = stored_tables(shop), shop.spent
        counts = shop.keep(PRODUCT)
        additions = counts.additions
        for statement in keepers.values():
            points = agreeing(statement, before, stored_tables(shop))
            for tables in (before, stored_tables(shop)):
                additions += sum(point in points for point, amount in ModelRun(shop.standing(statement), tables).trace)
        self.assertEqual(shop.spent.additions - spent.additions, additions)
        self.assertEqual(shop.spent.turns - spent.turns, counts.turns)
        keepers["c"] = PRODUCT
        self.check_kept(shop, keepers)
        self.check_call(shop, keepers, lambda: shop.put("b", 0, 3), False)

    def test_a_table_twice_in_an_expression(self):
        shop = new_shop()
        statement = Statement(access("c", "i"), access("a", "i", "k") * access("a", "k", "i") + access("a", "i", "k") * access("b", "k"))
        shop.keep(statement)
        for at, value in (((0, 1), 0), ((1, 1), 4), ((1, 1), 5), ((2, 0), 3), ((0, 2), 2), ((0, 1), 1), ((1, 1), 0)):
            self.check_call(shop, {"c": statement}, lambda: shop["a"].__setitem__(at, value), False)

    def test_constants_and_targets_with_letters_of_their_own(self):
        shop = more_tables(new_shop())
        keepers = {
            "a": Statement(access("a", "i", "k"), access("b", "k")), "d": Statement(D, number(4)), "s": Statement(access("s"), ~access("b", "k")),
            "e": Statement(E, access("f", "i") - access("f", "i")),
        }
        for statement in keepers.values():
            shop.keep(statement)
            self.assertIs(shop[statement.target.parts[0]].kept, True)
        self.check_kept(shop, keepers)
        for name in "bf":
            for at in range(3):
                self.check_call(shop, keepers, lambda: shop.put(name, at, at - 1), False)

    def test_random_shops(self):
        maker = Maker(61, "ik")
        chance, done = maker.chance, 0
        pool = [(name, (letter,)) for name in "bcdefgh" for letter in "ik"] + [("a", ("i", "k")), ("a", ("k", "i")), ("s", ())]
        for attempt in range(25):
            shop, keepers = more_tables(new_shop()), {}
            for step in range(12):
                target = chance.choice([access(name, "i") for name in "bcdefgh"] + [access("a", "i", "k"), access("s")])
                expression = maker.polynomial(chance.sample(pool, 3), 2)
                expression = expression if step % 3 else expression % 7
                statement = Statement(target, expression)
                try:
                    if chance.random() < 0.5:
                        shop.keep(statement)
                        keepers = {**keepers, target.parts[0]: statement}
                        self.check_kept(shop, keepers)
                    elif chance.random() < 0.5:
                        statement = Statement(target, expression, chance.choice(["=", "+=", "-="]))
                        self.check_call(shop, keepers, lambda: shop.run(statement))
                    else:
                        name = chance.choice("abs")
                        at = tuple(chance.randrange(3) for axis in shop[name].sizes)
                        self.check_call(shop, keepers, lambda: shop.put(name, at, chance.randint(-3, 3)), False)
                    done += 1
                except (KeptTable, KeepRing, TooLarge, KeptFailed):
                    self.check_kept(shop, keepers)
        self.assertGreater(done, 120)

    def test_offers_forms_and_batches_among_the_changes(self):
        maker, taken = Maker(62, "ik"), 0
        chance = maker.chance
        pool = [("b", ("i",)), ("b", ("k",)), ("a", ("i", "k")), ("d", ("k",)), ("d", ("i",))]
        for attempt in range(40):
            shop, keepers = more_tables(new_shop(), "de"), {}
            for name in "abde":
                shop[name].form = Form(*["dense"] * len(shop[name].sizes))
            keepers["c"] = Statement(C, maker.polynomial(chance.sample(pool, 2), 2))
            shop.keep(keepers["c"])
            keepers["e"] = Statement(E, C * 2 + maker.polynomial(chance.sample(pool, 1), 1))
            shop.keep(keepers["e"])
            for step in range(8):
                statement = keepers[chance.choice("ce")]
                try:
                    shop.offer(statement, lower(statement, {name: maker.form(len(shop[name].sizes)) for name in "abcd"}))
                    taken += 1
                except NoBetter:
                    pass
                shop[chance.choice("bcde")].form = maker.form(1)
                name = chance.choice("abd")
                at = tuple(chance.randrange(3) for axis in shop[name].sizes)
                before = snapshot(shop)
                with self.assertRaises(KeyError):
                    with shop.batch():
                        self.check_call(shop, keepers, lambda: shop.put(name, at, chance.randint(-3, 3)), False)
                        raise KeyError
                self.assertEqual(snapshot(shop), before)
                self.check_call(shop, keepers, lambda: shop.put(name, at, chance.randint(-3, 3)), False)
                self.check_call(shop, keepers, lambda: shop.run(Statement(D, access("d", "i") % 3 + access("b", "i") % 3)))
        self.assertGreater(taken, 20)

    def test_the_errors_in_their_order(self):
        shop = more_tables(new_shop())
        shop.table("u", (2,), Form("bits"))
        shop.keep(Statement(D, C))
        shop.keep(Statement(E, D + access("b", "i")))
        shop.keep(Statement(access("f", "i"), access("b", "i")))
        big = number(10 ** 60)
        for statement, error, told in (
            (Statement(access("q"), access("r"), "+="), NoTable, ["q"]), (Statement(access("c"), access("c"), "+="), RankClash, ["c"]),
            (Statement(C, access("u", "i") + C, "+="), SizeClash, ["i"]), (Statement(D, D, "+="), NotKeepable, []), (Statement(C, C, "-="), NotKeepable, []),
            (Statement(C, big, "-="), NotKeepable, []), (Statement(D, D + E), KeptTable, ["d"]), (Statement(D, big), KeptTable, ["d"]),
            (Statement(C, C), KeepRing, ["c"]), (Statement(C, access("c", "k") * big), KeepRing, ["c"]), (Statement(C, access("b", "i") + C), KeepRing, ["c"]),
            (Statement(C, E + C), KeepRing, ["e"]), (Statement(C, D + E), KeepRing, ["d"]), (Statement(C, E + D), KeepRing, ["e"]),
            (Statement(C, access("f", "i") + E + C), KeepRing, ["e"]), (Statement(C, big + D), KeepRing, ["d"]), (Statement(C, big), TooLarge, [(0,)]),
            (Statement(C, access("b", "i") * big), TooLarge, [(1,)]), (Statement(access("b", "i"), E), KeepRing, ["e"]),
            (Statement(access("b", "i"), C + access("f", "i")), KeepRing, ["f"]),
        ):
            self.refused(shop, error, lambda: shop.keep(statement), *told)
        shop.keep(Statement(C, access("f", "i") + access("g", "i")))
        self.refused(shop, KeepRing, lambda: shop.keep(Statement(access("g", "i"), E)), "e")
        self.refused(shop, KeptTable, lambda: shop.keep(Statement(C, access("h", "i"))), "c")

    def test_kept_tables_are_not_changed_otherwise(self):
        shop = new_shop()
        shop.keep(PRODUCT)
        for call in (
            lambda: shop.run(Statement(C, number(1))), lambda: shop.run(Statement(C, C, "+=")), lambda: shop.put("c", 0, 1),
            lambda: shop["c"].__setitem__(0, 50), lambda: shop["c"].__setitem__("i", 4), lambda: shop.keep(PRODUCT),
        ):
            self.refused(shop, KeptTable, call, "c")


class FailedTest(ShopCase):
    def failing(self, shop, call, name, at):
        error = self.refused(shop, KeptFailed, call, name)
        self.assertIs(type(error.__cause__), TooLarge)
        self.assertEqual(error.__cause__.at, at)

    def test_a_value_that_becomes_large(self):
        shop = new_shop()
        shop.keep(Statement(C, access("b", "i") * 10))
        self.failing(shop, lambda: shop.put("b", 0, 10 ** 59), "c", (0,))
        self.failing(shop, lambda: shop["b"].__setitem__(2, -(10 ** 59)), "c", (2,))
        self.failing(shop, lambda: shop.run(Statement(access("b", "k"), access("b", "k") * 10 ** 58, "+=")), "c", (1,))
        self.failing(shop, lambda: shop["b"].__setitem__("k", shop["b"]["k"] * 10 ** 58), "c", (1,))
        shop.put("b", 0, 10 ** 59 - 1)
        self.assertEqual(entries(shop, "c")[0,], 10 ** 60 - 10)
        self.failing(shop, lambda: shop.put("b", 1, 10 ** 59), "c", (1,))

    def test_errors_of_the_changed_table_come_first(self):
        shop = new_shop()
        shop.keep(Statement(C, access("b", "i") * 10))
        self.refused(shop, TooLarge, lambda: shop.put("b", 0, 10 ** 60), (0,))
        self.refused(shop, OutOfRange, lambda: shop.put("b", 3, 10 ** 59), (3,))
        self.refused(shop, TooLarge, lambda: shop.run(Statement(access("b", "k"), number(10 ** 60))), (0,))

    def test_the_first_table_in_the_order(self):
        for keep, name in (
            ((Statement(D, access("b", "i") * 10), Statement(C, access("b", "i") * 10)), "c"),
            ((Statement(D, access("b", "i") * 10), Statement(C, D)), "d"),
            ((Statement(D, access("b", "i")), Statement(C, D * 10), Statement(E, access("b", "i") * 10)), "c"),
            ((Statement(E, access("b", "i")), Statement(C, E * 10), Statement(D, access("b", "i") * 10)), "d"),
            ((Statement(access("g", "i"), access("b", "i")), Statement(C, access("g", "i") * 10), Statement(access("h", "i"), access("b", "i") * 10)), "c"),
            ((Statement(access("g", "i"), access("s")), Statement(C, access("g", "i") + access("b", "i") * 10), Statement(D, access("b", "i") * 10)), "c"),
            ((Statement(access("g", "i"), access("b", "i") * 0), Statement(C, access("g", "i") + access("b", "i") * 10), Statement(D, access("b", "i") * 10)), "d"),
        ):
            shop = more_tables(new_shop())
            for statement in keep:
                shop.keep(statement)
            self.failing(shop, lambda: shop.put("b", 2, 10 ** 59), name, (2,))

    def test_keeping_makes_another_table_fail(self):
        shop = more_tables(new_shop())
        shop.keep(Statement(D, C * 10))
        self.failing(shop, lambda: shop.keep(Statement(C, number(10 ** 59))), "d", (0,))
        self.assertIs(shop["c"].kept, False)
        shop["c"].form = Form("bits")
        shop.put("c", 0, 3)

    def test_sums_that_are_large_for_a_while_only(self):
        shop = new_shop()
        shop["b"][0] = LARGEST
        shop["b"][1] = -LARGEST
        shop.keep(Statement(access("s"), access("b", "k") * 5))
        self.assertEqual(shop["s"].stored[()], 5)
        self.failing(shop, lambda: shop.put("b", 0, LARGEST // 2), "s", ())
        self.check_call(shop, {"s": Statement(access("s"), access("b", "k") * 5)}, lambda: shop.put("b", 2, 7), False)
        shop.run(Statement(access("b", "k"), -access("b", "k")))
        self.assertEqual(shop["s"].stored[()], -35)

    def test_standing_programs_behind_a_failure(self):
        shop = new_shop()
        shop.keep(Statement(C, access("b", "i") * 10))
        scaling = Statement(access("b", "k"), access("b", "k") * 10 ** 58, "+=")
        self.failing(shop, lambda: shop.run(scaling), "c", (1,))
        shop["b"].form = Form("hashed")
        self.assertIn("hashed", program_text(shop.standing(scaling)))


class SpentTest(ShopCase):
    def test_told_numbers(self):
        shop = Shop()
        shop.table("a", (3, 3), Form("dense", "dense"), {(0, 1): 2, (0, 2): 3})
        shop.table("b", (3,), Form("packed"), {(1,): 4, (2,): 5})
        shop.table("c", (3,), Form("dense"))
        counts = shop.keep(PRODUCT)
        # Three rows in all, and in each row the two coordinates of b.
        self.assertEqual((counts.turns, counts.additions), (3 + 6, 6))
        shop.put("b", 1, 7)
        self.assertEqual((shop.spent.turns, shop.spent.additions), (9, 6 + 3 + 3))
        shop.put("b", 1, 0)
        self.assertEqual(shop.spent.additions, 12 + 3)
        shop.put("b", 1, 0)
        self.assertEqual(shop.spent.additions, 15)
        shop.put("b", 1, 2)
        self.assertEqual(shop.spent.additions, 15 + 3)
        shop.put("a", (2, 0), 1)
        self.assertEqual(shop.spent.additions, 18)
        shop.put("a", (2, 1), 1)
        self.assertEqual(shop.spent.additions, 18 + 2)
        self.assertEqual(shop.spent.turns, 9)

    def test_a_program_that_was_offered_since(self):
        shop = new_shop()
        for name in "ab":
            shop[name].form = Form(*["dense"] * len(shop[name].sizes))
        shop.keep(PRODUCT)
        spent = shop.spent.additions
        shop.put("b", 0, 8)
        self.assertEqual(shop.spent.additions - spent, 6)
        shop.offer(PRODUCT, lower(PRODUCT, {"a": Form("dense", "packed"), "b": Form("packed")}))
        spent = shop.spent.additions
        shop.put("b", 0, 0)
        # Only the row 1 has a value there.
        self.assertEqual(shop.spent.additions - spent, 1)
        self.check_call(shop, {"c": PRODUCT}, lambda: shop.put("b", 1, 8), False)
        self.check_call(shop, {"c": PRODUCT}, lambda: shop.run(Statement.read("b[k] += 3")))


class BatchTest(ShopCase):
    def leave(self, shop, call, error=KeyError("why")):
        """Leave a batch by an error behind a call, and check that all is as it was."""
        before, handles = snapshot(shop), [shop[name] for name in shop.names]
        with self.assertRaises(type(error)) as caught:
            with shop.batch():
                call()
                raise error
        self.assertIs(caught.exception, error)
        self.assertEqual(snapshot(shop), before)
        for handle in handles:
            self.assertIs(shop[handle.name], handle)
            self.assertEqual(len(handle), len(entries(shop, handle.name)))

    def changes(self, shop):
        """Calls that change something."""
        def form():
            shop["a"].form = Form("bits", "bits")

        def gain():
            shop["b"]["k"] += 5

        return [
            lambda: shop.put("a", (0, 0), 9), lambda: shop["b"].__setitem__(1, 0), form, gain, lambda: shop.run(Statement.read("a[i, k] = a[k, i]")),
            lambda: shop.keep(Statement(access("s"), access("b", "k"))), lambda: shop.table("new", (2,), Form("packed"), {(0,): 1}),
            lambda: shop.standing(PRODUCT),
        ]

    def test_batches_that_are_left_by_an_error(self):
        shop = new_shop()
        shop.keep(PRODUCT)
        for error in (KeyError("why"), NoTable("q"), ZeroDivisionError(), KeyboardInterrupt(), NotAnExpression(), SystemExit(), GeneratorExit()):
            for call in self.changes(shop):
                self.leave(shop, call, error)

        def everything():
            for call in self.changes(shop):
                call()

        self.leave(shop, everything)
        self.check_kept(shop, {"c": PRODUCT})
        for call in self.changes(shop):
            call()
        self.assertIn("new", shop)

    def test_batches_that_are_not(self):
        shop, other = new_shop(), new_shop()
        with shop.batch():
            for call in self.changes(shop):
                call()
        for call in self.changes(other):
            call()
        self.assertEqual(snapshot(shop), snapshot(other))
        with shop.batch():
            pass
        self.assertEqual(snapshot(shop), snapshot(other))

    def test_an_error_that_is_caught_inside(self):
        shop = new_shop()
        with shop.batch():
            shop.put("b", 0, 3)
            with self.assertRaises(TooLarge):
                shop.put("b", 1, 10 ** 60)
        self.assertEqual(entries(shop, "b"), {(0,): 3, (1,): 10, (2,): 1})

    def test_an_error_of_a_call_goes_on(self):
        shop = new_shop()
        shop.keep(Statement(C, access("b", "i") * 10))
        before = snapshot(shop)
        with self.assertRaises(KeptFailed) as caught:
            with shop.batch():
                shop.put("b", 0, 3)
                shop.put("b", 0, 10 ** 59)
        self.assertEqual((caught.exception.name, caught.exception.__cause__.at), ("c", (0,)))
        self.assertEqual(snapshot(shop), before)

    def test_batches_within_batches(self):
        shop = new_shop()
        with shop.batch():
            shop.put("b", 0, 1)
            with self.assertRaises(KeyError):
                with shop.batch():
                    shop.put("b", 0, 2)
                    raise KeyError("inner")
            self.assertEqual(shop["b"][0], 1)
            with shop.batch():
                shop.put("b", 1, 3)
            self.assertEqual(shop["b"][1], 3)
        self.assertEqual((shop["b"][0], shop["b"][1]), (1, 3))
        with self.assertRaises(KeyError):
            with shop.batch():
                shop.put("b", 0, 5)
                with shop.batch():
                    shop.put("b", 1, 6)
                raise KeyError("outer")
        self.assertEqual((shop["b"][0], shop["b"][1]), (1, 3))
        with self.assertRaises(KeyError):
            with shop.batch():
                shop.put("b", 0, 7)
                with shop.batch():
                    shop.put("b", 0, 8)
                    raise KeyError("both")
        self.assertEqual(shop["b"][0], 1)

    def test_a_batch_that_is_entered_later_and_again(self):
        shop = new_shop()
        batch = shop.batch()
        self.assertIsInstance(batch, Batch)
        shop.put("b", 0, 1)
        with self.assertRaises(KeyError):
            with batch:
                shop.put("b", 0, 2)
                raise KeyError
        self.assertEqual(shop["b"][0], 1)
        shop.put("b", 0, 3)
        with self.assertRaises(KeyError):
            with batch:
                shop.put("b", 0, 4)
                with self.assertRaises(IndexError):
                    with batch:
                        shop.put("b", 0, 5)
                        raise IndexError
                self.assertEqual(shop["b"][0], 4)
                raise KeyError
        self.assertEqual(shop["b"][0], 3)

    def test_two_shops(self):
        shop, other = new_shop(), new_shop()
        with self.assertRaises(KeyError):
            with shop.batch():
                shop.put("b", 0, 1)
                other.put("b", 0, 2)
                raise KeyError
        self.assertEqual((shop["b"][0], other["b"][0]), (0, 2))

    def test_together(self):
        shop = new_shop()
        steps = [lambda: shop.put("b", 0, 1), lambda: shop.put("b", 0, shop["b"][0] * 3), lambda: shop.table("new", (), Form())]
        self.assertIsNone(shop.together(steps))
        self.assertEqual((shop["b"][0], "new" in shop, len(steps)), (3, True, 3))
        before = snapshot(shop)
        with self.assertRaises(TableExists) as caught:
            shop.together(tuple(steps))
        self.assertEqual(caught.exception.name, "new")
        self.assertEqual(snapshot(shop), before)
        with self.assertRaises(ZeroDivisionError):
            shop.together([steps[0], lambda: 1 // 0, lambda: self.fail("went on")])
        self.assertEqual(snapshot(shop), before)
        shop.together([lambda: steps.clear(), lambda: shop.put("b", 0, 9)])
        self.assertEqual(shop["b"][0], 9)

    def test_steps_that_change_the_list_of_steps(self):
        shop, steps = new_shop(), []
        steps.extend([lambda: steps.clear(), lambda: shop.put("b", 0, 9)])
        shop.together(steps)
        self.assertEqual(shop["b"][0], 9)

    def test_standing_programs_and_kept_tables_are_as_they_were(self):
        shop = new_shop()
        for name in "ab":
            shop[name].form = Form(*["dense"] * len(shop[name].sizes))
        first = shop.standing(PRODUCT)
        better = lower(PRODUCT, {"a": Form("dense", "packed"), "b": Form("packed")})
        total = Statement(access("s"), access("b", "k"))

        def offer():
            shop.offer(PRODUCT, better)
            self.assertIs(shop.standing(PRODUCT), better)
            shop.keep(total)
            self.assertIs(shop["s"].kept, True)

        self.leave(shop, offer)
        self.assertIs(shop.standing(PRODUCT), first)
        self.assertIs(shop["s"].kept, False)
        shop["b"].form = Form("hashed")
        self.assertIn("hashed", program_text(shop.standing(total)))
        shop.offer(PRODUCT, better)
        with self.assertRaises(NoBetter):
            shop.offer(PRODUCT, better)
        shop.put("s", (), 5)


class GoneTest(ShopCase):
    def gone(self, shop, again):
        """A table that was made in a batch that was undone, with another table of its name if wanted."""
        with self.assertRaises(KeyError):
            with shop.batch():
                table = shop.table("new", (3,), Form("packed"), {(0,): 1})
                self.assertEqual((len(table), table[0], table.kept), (1, 1, False))
                raise KeyError
        if again:
            shop.table("new", (3,), Form("dense"), {(1,): 2})
        return table

    def doors(self, table):
        return [
            lambda: table.stored, lambda: table.form, lambda: table.kept, lambda: len(table), lambda: (0,) in table, lambda: (9, 9) in table,
            lambda: table[0], lambda: table[0,], lambda: table[9], lambda: setattr(table, "form", Form("dense")), lambda: setattr(table, "form", Form()),
            lambda: table.__setitem__(0, 1), lambda: table.__setitem__(9, 10 ** 60), lambda: table.__setitem__("i", number(1)),
            lambda: table.__setitem__("i", 1), lambda: table.__setitem__(("i", "k"), 1), lambda: table.__setitem__((), 1),
            lambda: table.__setitem__("i", access("new", "i")),
        ]

    def test_each_door(self):
        for again in (False, True):
            shop = new_shop()
            table = self.gone(shop, again)
            self.assertEqual(("new" in shop, "new" in shop.names), (again, again))
            for door in self.doors(table):
                self.refused(shop, NoTable, door, "new")
            self.assertEqual((table.name, table.sizes), ("new", (3,)))

            def gain():
                table["i"] += 1

            self.refused(shop, NoTable, gain, "new")

    def test_a_new_table_with_the_name(self):
        shop = new_shop()
        table = self.gone(shop, True)
        self.assertIsNot(shop["new"], table)
        self.assertEqual((shop["new"][1], len(shop["new"])), (2, 1))
        shop["new"]["i"] += 1
        self.assertEqual(entries(shop, "new"), {(0,): 1, (1,): 3, (2,): 1})

    def test_the_shop_without_it(self):
        shop = new_shop()
        self.gone(shop, False)
        for call in (
            lambda: shop["new"], lambda: shop.put("new", 9, 1), lambda: shop.reform("new", Form()), lambda: shop.run(Statement.read("new[i] = 1")),
            lambda: shop.standing(Statement.read("b[i] = new[i]")), lambda: shop.keep(Statement.read("new[i] += 1")),
            lambda: shop.offer(Statement.read("new[i] = 1"), None),
        ):
            self.refused(shop, NoTable, call, "new")

    def test_outer_and_inner_batches(self):
        shop = new_shop()
        with self.assertRaises(WalkError):
            with shop.batch():
                with shop.batch():
                    inner = shop.table("inner", (), Form(), {(): 1})
                outer = shop.table("outer", (), Form(), {(): 1})
                with self.assertRaises(KeyError):
                    with shop.batch():
                        third = shop.table("third", (), Form())
                        raise KeyError
                self.refused(shop, NoTable, lambda: third.stored, "third")
                self.assertEqual((inner.stored[()], outer.stored[()]), (1, 1))
                raise RepeatedLetter("i")
        for table in (inner, outer, third):
            self.refused(shop, NoTable, lambda: table.stored, table.name)

    def test_tables_that_were_there_before_stay(self):
        shop = new_shop()
        a = shop["a"]
        with self.assertRaises(KeyError):
            with shop.batch():
                a[0, 0] = 99
                a.form = Form("hashed", "hashed")
                raise KeyError
        self.assertIs(shop["a"], a)
        self.assertEqual((a[0, 0], a.form.text), (0, "dense 0, packed 1"))
        a[0, 0] = 5
        self.assertEqual(shop["a"][0, 0], 5)

    def test_uses_of_another_form_in_programs_of_shops(self):
        shop = new_shop()
        self.assertEqual(shop.standing(PRODUCT).uses[0].form.text, use("a", "ik", "dense 0, packed 1").form.text)


if __name__ == "__main__":
    unittest.main()
