"""[46], [49], [50]: active expressions, programs for statements, and programs without idle parts."""

import unittest
from collections import Counter
from itertools import combinations, permutations, product
from random import Random

from levelwalks.errors import BadForm, Illegal, NoTable, NotAnExpression, NotPolynomial, RankClash
from levelwalks.expressions import access, number, value_of
from levelwalks.families import Family
from levelwalks.forms import Form
from levelwalks.functions import at_most, below, equal, greater, lesser, unequal
from levelwalks.judging import alike, never_more, right
from levelwalks.making import active, lower, tightened
from levelwalks.orders import fewest_turned
from levelwalks.polynomials import polynomial
from levelwalks.programs import Add, Block, Loop, Program, Use, check
from levelwalks.programtexts import program_text, read_program
from levelwalks.running import run
from levelwalks.statements import Statement
from levelwalks.storing import Stored
from tests.helper import (
    KINDS, NOTHING, ONE, ONE_OPERAND, NUMBERED, TWO_OPERANDS, VALUES, Maker, ModelRun, access_model, built, deep_models,
    each, flat_models, gains, level_paths, model_accesses, model_amount, model_fits, model_of, number_model, program_model,
    shapes, table, use,
)

C = access("c", "i")
X, Y = access("a", "i"), access("b")
PAIRS = (("a", ("i",)), ("b", ()))


def model_active(model, living):
    """Whether an expression is active, by the rows of the document."""
    kind, parts = model[0], model[1:]
    if kind == "number":
        return parts[0] != 0
    if kind == "access":
        return parts in living
    if kind == "inverse":
        return True
    if kind in NUMBERED + ONE_OPERAND:
        return model_active(parts[0], living)
    x, y = parts
    many = (x[0] == "number") + (y[0] == "number")
    if many == 2:
        return VALUES[kind](x[1], y[1]) != 0
    actives = (model_active(x, living), model_active(y, living))
    if kind in ("times", "both"):
        return all(actives)
    if x[0] == "number":
        return actives[1] or VALUES[kind](x[1], 0) != 0
    if y[0] == "number":
        return actives[0] or VALUES[kind](0, y[1]) != 0
    return kind in ("at_most", "equal") or any(actives)


def subsets(worths):
    return [chosen for many in range(len(worths) + 1) for chosen in combinations(worths, many)]


class ActiveTest(unittest.TestCase):
    def check(self, model, living):
        expression = built(model)
        wanted = model_active(model, living)
        for given in (tuple(living), list(living), [[name, list(letters)] for name, letters in living]):
            self.assertIs(active(expression, given), wanted)
        self.assertIs(active(living=tuple(living), expression=expression), wanted)

    def test_each_row_for_each_kind(self):
        x, y = access_model("a", "i"), access_model("b")
        inner = [x, y, number_model(0), number_model(3), number_model(-2), ("negative", number_model(0)), ("inverse", x), ("plus", x, y)]
        models = [(kind, left, right) for kind in TWO_OPERANDS for left, right in product(inner, repeat=2)]
        models += [(kind, left, n) for kind in NUMBERED for left in inner for n in (1, 2, 3)]
        models += [(kind, left) for kind in ONE_OPERAND for left in inner] + inner
        for model in models:
            for living in subsets(PAIRS):
                self.check(model, living)

    def test_told_expressions(self):
        a = PAIRS[:1]
        for expression, none, one in (
            (number(0), False, False), (number(-1), True, True), (X, False, True), (Y, False, False), (X + Y, False, True),
            (X * Y, False, False), (X * 3, False, True), (X * 0, False, False), (0 * X, False, False), (X & 3, False, True),
            (X & 0, False, False), (X | 0, False, True), (X | 1, True, True), (X + 1, True, True), (X + 0, False, True),
            (1 - X, True, True), (0 - X, False, True), (X - 0, False, True), (X ^ 4, True, True), (X - Y, False, True),
            (number(2) - 2, False, False), (number(2) * 3, True, True), (number(2) & 5, False, False), (equal(number(2), number(2)), True, True),
            (equal(number(2), number(3)), False, False), (equal(X, 0), True, True), (equal(X, 1), False, True), (equal(X, Y), True, True),
            (at_most(X, Y), True, True), (at_most(X, 0), True, True), (at_most(X, -1), False, True), (at_most(1, X), False, True),
            (at_most(0, X), True, True), (below(X, Y), False, True), (below(X, 1), True, True), (below(X, 0), False, True),
            (below(-1, X), True, True), (unequal(X, Y), False, True), (unequal(X, 0), False, True), (unequal(X, 5), True, True),
            (greater(X, Y), False, True), (greater(X, 3), True, True), (greater(X, -3), False, True), (lesser(X, -3), True, True),
            (lesser(X, 3), False, True), (X // 3, False, True), (X % 3, False, True), (X ** 2, False, True), (X << 2, False, True),
            (X >> 2, False, True), (-X, False, True), (abs(X), False, True), (~X, True, True), (~(X - X), True, True),
            (-(number(0)), False, False), ((-number(3)) + X, True, True), ((number(2) - 2) + X, False, True),
            ((number(2) - 2) + (X + 1), True, True), ((X + 1) * Y, False, False), ((X + 1) * X, False, True),
            (number(0) // 3, False, False), (number(1) // 3, True, True), (abs(number(-1)), True, True), (~number(-1), True, True),
        ):
            self.assertIs(active(expression, ()), none, expression.text)
            self.assertIs(active(expression, a), one, expression.text)

    def test_random_expressions(self):
        chance = Random(4)
        for model in flat_models() + deep_models(200):
            pairs = sorted(set(model_accesses(model)))
            for living in subsets(pairs):
                self.check(model, living)
                # What is not active has the value 0.
                if not model_active(model, living):
                    for trial in range(3):
                        values = {pair: chance.randint(-9, 9) if pair in living else 0 for pair in pairs}
                        self.assertEqual(value_of(built(model), values), 0)

    def test_the_letters_of_the_living_count(self):
        expression = access("a", "i", "k")
        for living, wanted in (
            ((("a", ("i", "k")),), True), ((("a", ("k", "i")),), False), ((("a", ("i",)),), False), ((("b", ("i", "k")),), False),
            ([["b", []], ["a", ["i", "k"]]], True), ((), False),
        ):
            before = repr(living)
            self.assertIs(active(expression, living), wanted)
            self.assertEqual(repr(living), before)

    def test_gains_and_losses(self):
        for x in gains():
            with self.assertRaises(NotAnExpression):
                active(x, ())


class ModelLowered:
    """What [49] says of a run: how many turns at each binding, and which points are added."""

    def __init__(self, statement, uses, order, tables):
        self.statement, self.uses, self.order, self.tables = statement, uses, order, tables
        self.model = model_of(statement.expression)
        self.sizes = {}
        for name, letters in [statement.target.parts, *statement.expression.accesses]:
            self.sizes.update(zip(letters, tables[name].sizes))
        self.paths = []
        for each_use in uses:
            stored = tables[each_use.name]
            levels = level_paths(stored.sizes, each_use.form.kinds, each_use.form.axes, dict(stored.entries()))
            self.paths.append({path for level in levels for path in level})
        self.bindings, self.points = self.all_turns()

    def letters_of_levels(self, each_use):
        return [each_use.letters[axis] for axis in each_use.form.axes]

    def resolved(self, each_use, spot):
        found = ()
        for letter in self.letters_of_levels(each_use):
            if letter not in spot:
                break
            found += (spot[letter],)
        return found

    def lives(self, at, spot):
        return self.resolved(self.uses[at], spot) in self.paths[at]

    def active_with(self, numbers):
        return model_active(self.model, [(self.uses[at].name, self.uses[at].letters) for at in numbers])

    def holds(self, spot):
        return self.active_with([at for at in range(len(self.uses)) if self.lives(at, spot)])

    def makes_turn(self, many, spot):
        """Whether there is a turn at the binding of the first letters."""
        letter = self.order[many - 1]
        before = {each_letter: spot[each_letter] for each_letter in self.order[:many - 1]}
        if not self.holds(before):
            return False
        living = []
        for at, each_use in enumerate(self.uses):
            path = self.resolved(each_use, before)
            if path not in self.paths[at]:
                continue
            level = len(path)
            leads = level < len(each_use.letters) and self.letters_of_levels(each_use)[level] == letter
            if not leads or each_use.form.kinds[level] == "hashed" or path + (spot[letter],) in self.paths[at]:
                living.append(at)
        return self.active_with(living)

    def all_turns(self):
        bindings, points = [], []
        for many in range(len(self.order) + 1):
            letters = self.order[:many]
            for coordinates in product(*(range(self.sizes[letter]) for letter in letters)):
                spot = dict(zip(letters, coordinates))
                if many > 0 and self.makes_turn(many, spot):
                    bindings.append(tuple(sorted(spot.items())))
                if many == len(self.order) and self.holds(spot):
                    points.append(tuple(c for letter, c in sorted(spot.items())))
        return bindings, points


def unlike_accesses(statement):
    return list(dict.fromkeys(statement.expression.accesses))


class LowerTest(unittest.TestCase):
    def check(self, statement, forms, tables, order=None):
        """Check the program for a statement, and its run on some tables."""
        given = dict(forms)
        program = lower(statement, forms) if order is None else lower(statement, forms, order)
        again = lower(order=list(order) if order is not None else None, forms=forms, statement=statement)
        self.assertEqual(program_text(again), program_text(program))
        self.assertEqual(forms, given)
        self.assertIsInstance(program, Program)
        self.assertIsNone(check(program))
        self.assertEqual(model_of(program.target), model_of(statement.target))
        self.assertEqual(program.letters, statement.letters)
        sequence = self.check_uses(program, statement, forms, order)
        for each_tables in tables:
            self.check_run(program, statement, sequence, each_tables)
        return program

    def check_uses(self, program, statement, forms, order):
        """Check the uses and which of them are turned, and return the order."""
        uses = [Use(name, letters, forms[name]) for name, letters in unlike_accesses(statement)]
        if order is None:
            turning, order, rings = fewest_turned(uses, statement.letters)
        else:
            turning = [at for at, each_use in enumerate(uses) if not model_fits(each_use, list(order))]
        self.assertEqual([(made.name, made.letters) for made in program.uses], unlike_accesses(statement))
        for at, (made, each_use) in enumerate(zip(program.uses, uses)):
            self.assertEqual(made.form.kinds, each_use.form.kinds)
            if at in turning:
                letters = [letter for letter in order if letter in made.letters]
                self.assertEqual([made.letters[axis] for axis in made.form.axes], letters)
            else:
                self.assertEqual(made.form.axes, each_use.form.axes)
        return tuple(order)

    def check_run(self, program, statement, order, tables):
        found, wanted = ModelRun(program, tables), ModelLowered(statement, program.uses, order, tables)
        self.assertEqual(sorted(found.bindings), sorted(wanted.bindings), (statement.text, program_text(program)))
        self.assertEqual(sorted(point for point, amount in found.trace), sorted(wanted.points))
        for point, amount in found.trace:
            self.assertEqual(amount, model_amount(statement, tables, point))
        result = run(program, tables)
        self.assertEqual((result.trace, result.counts.turns), (tuple(found.trace), len(found.bindings)))
        points = {point for point, amount in found.trace}
        sizes = wanted.sizes
        for point in product(*(range(sizes[letter]) for letter in statement.letters)):
            if point not in points:
                self.assertEqual(model_amount(statement, tables, point), 0)

    def all_tables(self, shapes_of, many=6):
        """Tables of some shapes, empty, full and with a few cells."""
        chance = Random(7)
        for attempt in range(many):
            found = {}
            for name, shape in shapes_of.items():
                places = list(product(*map(range, shape)))
                count = [0, len(places)][attempt] if attempt < 2 else chance.randint(0, len(places))
                found[name] = table(shape, {at: chance.choice([-2, -1, 1, 3]) for at in chance.sample(places, count)})
            yield found

    def test_the_example(self):
        forms = {"a": Form("dense", "packed"), "b": Form("packed")}
        program = self.check(
            Statement(C, access("a", "i", "k") * access("b", "k")), forms, self.all_tables({"a": (3, 4), "b": (4,), "c": (3,)})
        )
        self.assertTrue(right(program, Statement(C, access("a", "i", "k") * access("b", "k"))).holds)

    def test_every_pair_of_forms(self):
        a, b = access("a", "i", "k"), access("b", "k")
        tables = list(self.all_tables({"a": (2, 3), "b": (3,), "c": (2,)}, 5))
        for (kinds, axes), kind in product(shapes(2), KINDS):
            forms = {"a": Form(*kinds, axes=axes), "b": Form(kind)}
            for number_of, expression in enumerate((a * b, a + b, a - b * 2, (a + 1) * b, lesser(a, b), at_most(b, a), 3 * a + 0 * b, a * a)):
                statement = Statement(C, expression, ("=", "+=", "-=")[number_of % 3])
                program = self.check(statement, forms, tables[number_of % 2:4])
                try:
                    polynomial(expression)
                except NotPolynomial:
                    continue
                for add_text in program_text(program).split("\n"):
                    if add_text.strip().startswith("add"):
                        self.assertNotIn("lesser", add_text)
                self.assertTrue(right(program, statement).holds)

    def test_orders_that_are_given(self):
        a, b = access("a", "i", "k"), access("b", "k", "j")
        tables = list(self.all_tables({"a": (2, 2), "b": (2, 3), "c": (2, 3)}, 4))
        for order in permutations("ijk"):
            for first, second in product(("dense 0, packed 1", "packed 1, packed 0", "hashed 0, packed 1"), ("packed 0, bits 1", "hashed 1, packed 0")):
                forms = {"a": Form.read(first), "b": Form.read(second)}
                for expression in (a * b, a + b, abs(a) - b):
                    self.check(Statement(access("c", "i", "j"), expression), forms, tables, order)

    def test_letters_of_the_target_alone_and_of_the_expression_alone(self):
        for expression, shape in ((access("b", "k"), (3,)), (access("s") * 3, ()), (number(4), ()), (access("s") + 1, ())):
            statement = Statement(access("c", "i", "j"), expression)
            shapes_of = {"c": (2, 2), "b": (3,), "s": ()}
            forms = {"b": Form("packed"), "s": Form()}
            for order in (None, *permutations(statement.letters)):
                self.check(statement, forms, self.all_tables(shapes_of, 4), order)

    def test_nothing_active(self):
        for expression in (number(0), access("b", "i") * 0, 0 & access("b", "i"), access("b", "i") * (number(2) - 2), access("s") * 0):
            statement = Statement(C, expression)
            program = self.check(statement, {"b": Form("packed"), "s": Form()}, self.all_tables({"c": (2,), "b": (2,), "s": ()}, 3))
            result = run(program, {"c": table((2,)), "b": table((2,), {(0,): 1}), "s": table((), {(): 2})})
            self.assertEqual((result.counts.turns, result.counts.additions), (0, 0))
        program = self.check(Statement(access("c"), number(0)), {}, self.all_tables({"c": ()}, 1))
        self.assertEqual(run(program, {"c": table(())}).trace, ())

    def test_without_letters(self):
        for expression in (access("s"), access("s") * access("t"), access("s") + 1, ~access("s"), number(3), access("s") - access("s")):
            self.check(Statement(access("c"), expression), {"s": Form(), "t": Form()}, self.all_tables({"c": (), "s": (), "t": ()}, 5))

    def test_a_table_twice(self):
        a, back = access("a", "i", "k"), access("a", "k", "i")
        tables = list(self.all_tables({"a": (3, 3), "c": (3,)}, 5))
        for text in ("dense 0, packed 1", "packed 1, packed 0", "bits 0, hashed 1", "packed 0, bits 1"):
            for expression in (a * back, a + back, a * a + back, a - a):
                program = self.check(Statement(C, expression), {"a": Form.read(text)}, tables)
                self.assertEqual(len(program.uses), len(set(expression.accesses)))
        program = lower(Statement(C, a * back), {"a": Form("dense", "packed")})
        self.assertEqual([made.form.text for made in program.uses], ["dense 1, packed 0", "dense 0, packed 1"])

    def test_the_table_of_the_target(self):
        for sign in ("=", "+=", "-="):
            self.check(Statement(C, C * C + access("b", "i"), sign), {"c": Form("packed"), "b": Form("hashed")}, self.all_tables({"c": (3,), "b": (3,)}, 5))

    def test_random_statements(self):
        chance, maker = Random(17), Maker(17, "ijk")
        pool = [("a", ("i", "k")), ("a", ("k", "i")), ("b", ("k",)), ("t", ("k", "j", "i")), ("s", ()), ("d", ("j", "k"))]
        for attempt in range(250):
            accesses = chance.sample(pool, chance.randint(1, 4))
            model = self.random_model(chance, accesses, 3)
            target = chance.choice([access("c"), access("c", "i"), access("c", "j", "i")])
            statement = Statement(target, built(model))
            forms = {name: maker.form(len(letters)) for name, letters in pool}
            order = None if attempt % 2 else tuple(chance.sample(statement.letters, len(statement.letters)))
            tables = [maker.tables([target.parts, *pool], 2) for trial in range(2)]
            self.check(statement, forms, tables, order)

    def random_model(self, chance, accesses, depth):
        if depth == 0 or chance.random() < 0.2:
            if chance.random() < 0.2:
                return number_model(chance.randint(-1, 2))
            return ("access", *chance.choice(accesses))
        kind = chance.choice(TWO_OPERANDS + ("plus", "times", "times") + ("negative", "absolute", "power", "quotient", "inverse"))
        x = self.random_model(chance, accesses, depth - 1)
        if kind in TWO_OPERANDS:
            return (kind, x, self.random_model(chance, accesses, depth - 1))
        return (kind, x) if kind in ONE_OPERAND else (kind, x, 2)

    def test_random_polynomials_are_right(self):
        chance, maker = Random(18), Maker(18)
        pool = [("a", ("i", "k")), ("b", ("k",)), ("s", ()), ("d", ("k", "i"))]
        for attempt in range(150):
            accesses = chance.sample(pool, chance.randint(1, 3))
            statement = Statement(C, maker.polynomial(accesses, 3))
            program = lower(statement, {name: maker.form(len(letters)) for name, letters in pool})
            if len(Family(program).members) <= 10:
                self.assertTrue(right(program, statement).holds)

    def test_the_errors(self):
        a, b, s = access("a", "i", "k"), access("b", "k"), access("s")
        two, one, none = Form("dense", "packed"), Form("packed"), Form()
        for expression, forms, error, name in (
            (a * b + s, {}, NoTable, "a"), (a * b + s, {"a": two}, NoTable, "b"), (a * b + s, {"a": two, "b": one}, NoTable, "s"),
            (b + a * s, {"a": two}, NoTable, "b"), (a * b, {"a": one}, BadForm, None), (a * b, {"a": two, "b": two}, BadForm, None),
            (a * b, {"b": two}, NoTable, "a"), (a + s, {"a": two, "s": one}, BadForm, None), (b + a, {"b": none, "a": two}, BadForm, None),
            (a + access("a", "i"), {"a": two}, BadForm, None), (a + access("a", "i") + s, {"a": two}, BadForm, None),
        ):
            for order in (None, ("k", "i")):
                with self.assertRaises(error) as caught:
                    lower(Statement(C, expression), forms, order)
                if name is not None:
                    self.assertEqual(caught.exception.name, name)
        lower(Statement(C, b), {"b": one, "q": two, "c": two})


def model_idle(program):
    """The places of the adds that are not idle, by running the program on small tables."""
    family, useful = Family(program), set()
    n = len(family.letters)
    for pattern in family.patterns():
        there = {member for member, existing in zip(family.members, pattern) if existing}
        missing = [
            access(each_use.name, *each_use.letters).text for each_use in program.uses
            if (each_use.name, tuple(enumerate(each_use.letters))) not in there
        ]
        tables = {
            name: Stored((n + 1,) * family.ranks[name], Form(*["dense"] * family.ranks[name]), cells)
            for name, cells in family.small_tables(pattern).items()
        }
        for place, expression in placed_adds(program, tables, tuple(range(n))):
            if polynomial(expression).without(missing) != polynomial(number(0)):
                useful.add(place)
    return useful


def placed_adds(program, tables, point):
    """The places and expressions of the adds that are run at a point: one add after the other alone is run."""
    found = []

    def with_ones(node, at, place=()):
        """The same node, where the add at a place adds 1 and all others nothing."""
        if isinstance(node, Add):
            return Add(number(int(place == at)))
        if isinstance(node, Block):
            return Block([with_ones(inside, at, place + (n,)) for n, inside in enumerate(node.nodes)])
        cases = [(needs, with_ones(inside, at, place + (n,))) for n, (needs, inside) in enumerate(node.cases)]
        return Loop(node.letter, node.leaders, cases)

    for place, node in all_adds(program.node):
        single = Program(program.target, program.uses, with_ones(program.node, place))
        if ModelRun(single, tables).sum_at(point) > 0:
            found.append((place, node.expression))
    return found


def all_adds(node, place=()):
    if isinstance(node, Add):
        return [(place, node)]
    inner = node.nodes if isinstance(node, Block) else [case[1] for case in node.cases]
    return [pair for at, inside in enumerate(inner) for pair in all_adds(inside, place + (at,))]


def model_tight(node, useful, place=()):
    """The node by the document, step by step from the inside to the outside."""
    if isinstance(node, Add):
        return node if place in useful else Block(())
    if isinstance(node, Block):
        inner = [model_tight(inside, useful, place + (at,)) for at, inside in enumerate(node.nodes)]
        return Block([inside for inside in inner if all_adds(inside)])
    cases = [(needs, model_tight(inside, useful, place + (at,))) for at, (needs, inside) in enumerate(node.cases)]
    while cases and not all_adds(cases[-1][1]):
        cases.pop()
    if not cases:
        return Block(())
    return Loop(node.letter, node.leaders, [(needs, inside if all_adds(inside) else Block(())) for needs, inside in cases])


class TightenedTest(unittest.TestCase):
    start = "program c[i]\nuse a[i, k] packed 0, packed 1\nuse b[k] packed 0\n"

    def check(self, program, wanted=None):
        before = program_model(program)
        made = tightened(program)
        self.assertIsInstance(made, Program)
        if wanted is None:
            wanted = model_tight(program.node, model_idle(program))
            wanted = Program(program.target, program.uses, wanted)
        self.assertEqual(program_text(made), program_text(wanted))
        self.assertEqual(program_model(made)[:2], before[:2])
        self.assertEqual(program_text(tightened(program=program)), program_text(made))
        self.assertEqual(program_model(program), before)
        self.assertTrue(alike(made, program).holds)
        self.assertTrue(never_more(made, program).holds)
        return program_text(made) != program_text(program)

    def check_text(self, lines, wanted):
        program = read_program(self.start + lines)
        self.check(program, read_program(self.start + wanted))
        self.check(program)

    def test_nothing_idle(self):
        for lines in (
            "each i in 0\nwhen 0\n  each k in 0 1\n  when 0 1\n    add (a[i, k] * b[k])",
            "each i in all\nwhen always\n  each k in 0 or 1\n  when 0 1\n    add (a[i, k] + b[k])\n  when 0\n    add a[i, k]\n  when 1\n    add b[k]",
            "block\n  block\n    each k in all\n    when always\n      each i in all\n      when always\n        add 1",
        ):
            self.check_text(lines, lines)

    def test_idle_adds(self):
        loops = "each i in all\nwhen always\n  each k in {}\n  when {}\n    add {}"
        for leaders, needs, expression in (
            ("all", "always", "0"), ("all", "always", "(b[k] - b[k])"), ("all", "always", "((b[k] + 1) - (1 + b[k]))"), ("none", "always", "1"),
            ("all", "always", "(0 * a[i, k])"),
        ):
            self.check_text(loops.format(leaders, needs, expression), "block")
        for leaders, needs, expression in (("0", "0", "b[k]"), ("all", "always", "b[k]"), ("1", "1", "a[i, k]"), ("all", "1", "-1")):
            self.check_text(loops.format(leaders, needs, expression), loops.format(leaders, needs, expression))

    def test_an_add_that_is_never_run(self):
        self.check_text(
            "each i in all\nwhen always\n  each k in 1\n  when 1\n    add b[k]\n  when always\n    add 1",
            "each i in all\nwhen always\n  each k in 1\n  when 1\n    add b[k]",
        )
        self.check_text(
            "each i in all\nwhen always\n  each k in all\n  when 0\n    add 1\n  when 0 1\n    add 1\n  when 1\n    add 2",
            "each i in all\nwhen always\n  each k in all\n  when 0\n    add 1\n  when 0 1\n    block\n  when 1\n    add 2",
        )

    def test_accesses_without_a_value(self):
        # In the last case neither table has a value.
        self.check_text(
            "each i in all\nwhen always\n  each k in all\n  when 0\n    add (a[i, k] * b[k])\n  when 1\n    add (a[i, k] * b[k])\n"
            "  when always\n    add (b[k] + (a[i, k] * b[k]))",
            "each i in all\nwhen always\n  each k in all\n  when 0\n    add (a[i, k] * b[k])",
        )

    def test_cases_and_blocks(self):
        self.check_text(
            "block\n  block\n  each i in all\n  when 0\n    block\n      block\n      each k in 1\n  when always\n    each k in all\n    when 0\n"
            "      add 0\n    when 1\n      block\n        add 0\n        add b[k]\n    when always\n      block\n  when 0 1\n    block\n  each i in 0",
            "block\n  each i in all\n  when 0\n    block\n  when always\n    each k in all\n    when 0\n      block\n    when 1\n      block\n"
            "        add b[k]",
        )

    def test_loops_without_adds(self):
        for lines in (
            "block", "each i in all", "each i in all\nwhen always\n  block", "block\n  each i in 0\n  when 0\n    each k in 0 1", "block\n  block",
            "each i in all\nwhen 0\n  each k in all\n  when always\n    add 0\nwhen always\n  block",
        ):
            self.check_text(lines, "block")

    def test_one_node_at_several_places(self):
        uses = read_program(self.start + "block").uses
        add = Add(access("b", "k"))
        loop = Loop("k", ((),), (((1,), add), ((0,), add), ((), add)))
        program = Program(C, uses, Block((each("i", loop), NOTHING, each("i", loop))))
        lines = "each i in all\nwhen always\n  each k in all\n  when 1\n    add b[k]"
        indented = "\n".join("  " + line for line in lines.split("\n"))
        self.check(program, read_program(self.start + "block\n" + indented + "\n" + indented))

    def test_without_letters(self):
        uses = (use("s", ""),)
        self.check(Program(access("c"), uses, Add(access("s"))), Program(access("c"), uses, Add(access("s"))))
        self.check(Program(access("c"), uses, Add(access("s") * 0)), Program(access("c"), uses, NOTHING))
        self.check(Program(access("c"), (), Block((ONE, Add(number(0)), NOTHING, ONE))), Program(access("c"), (), Block((ONE, ONE))))

    def test_random_programs(self):
        maker, seen = Maker(51, most_uses=2), Counter()
        for attempt in range(250):
            seen[self.check(maker.program())] += 1
        self.assertGreater(min(seen[True], seen[False]), 20)

    def test_lowered_programs(self):
        a, b = access("a", "i", "k"), access("b", "k")
        for expression in (a * b, a + b, (a + 1) * b, a * b + a, a - a, (a - b) ** 2):
            self.check(lower(Statement(C, expression), {"a": Form("packed", "bits"), "b": Form("hashed")}))

    def test_the_errors_in_their_order(self):
        odd = Add(~access("a", "i"))
        for node, uses, error in (
            (Block((NOTHING, ONE)), (use("a", "i", "dense 0"), use("a", "")), Illegal), (each("i", Add(access("q"))), (), Illegal),
            (each("i", odd), (use("a", "i", "dense 0"), use("a", "")), NotPolynomial), (each("i", odd), (use("a", "i", "dense 0"),), NotPolynomial),
            (Loop("i", (), (((), odd),)), (use("a", "i", "dense 0"),), NotPolynomial), (each("i", ONE), (use("c", ""),), RankClash),
            (each("i", ONE), (use("a", "i", "bits 0"), use("a", "")), RankClash),
        ):
            with self.assertRaises(error) as caught:
                tightened(Program(C, uses, node))
            if error is RankClash:
                self.assertEqual(caught.exception.name, uses[-1].name)
        with self.assertRaises(Illegal) as caught:
            tightened(Program(C, (), Block((NOTHING, each("i", odd)))))
        self.assertEqual(caught.exception.place, (1, 0))


if __name__ == "__main__":
    unittest.main()
