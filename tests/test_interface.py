"""[62]: names, arguments and kinds of values, each in the file under which it is listed."""

import inspect
import unittest

from levelwalks import (
    counts, errors, expressions, families, forms, functions, judging, making, orders, polynomials, programs, programtexts,
    reading, running, shops, statements, storing, tabletexts,
)
from tests.test_errors import PARAMETERS


# The functions of each file, with their parameters.
FUNCTIONS = (
    (tabletexts, {"table_text": ["stored"], "read_table": ["text"]}),
    (expressions, {"number": ["n"], "access": ["name", "letters"], "value_of": ["expression", "values"]}),
    (functions, {name: ["x", "y"] for name in ("greater", "lesser", "below", "at_most", "equal", "unequal")}),
    (reading, {"read_expression": ["text"]}),
    (statements, {"plain": ["statement", "tables"]}),
    (programs, {"check": ["program"]}),
    (programtexts, {"program_text": ["program"], "read_program": ["text"]}),
    (running, {"run": ["program", "tables"]}),
    (polynomials, {"polynomial": ["expression"], "parting": ["p", "q"]}),
    (judging, {
        "alike": ["first", "second"], "right": ["program", "statement"], "full": ["statement"], "never_more": ["first", "second"],
    }),
    (orders, {"fitting_order": ["uses", "letters"], "turned": ["use", "order"], "fewest_turned": ["uses", "letters"]}),
    (making, {
        "active": ["expression", "living"], "lower": ["statement", "forms", "order"], "tightened": ["program"],
    }),
)


SHOP_METHODS = {
    "table": ["name", "sizes", "form", "cells"], "put": ["name", "at", "value"], "reform": ["name", "form"], "run": ["statement"],
    "standing": ["statement"], "offer": ["statement", "program"], "keep": ["statement"], "batch": [], "together": ["steps"],
}


def parameters(function):
    return [name for name in inspect.signature(function).parameters if name != "self"]


class InterfaceTest(unittest.TestCase):
    def test_each_class_stands_in_its_own_file(self):
        for name in ["WalkError", *PARAMETERS]:
            self.assertEqual(getattr(errors, name).__module__, "levelwalks.errors")
        self.assertEqual(forms.Form.__module__, "levelwalks.forms")
        self.assertEqual(storing.Stored.__module__, "levelwalks.storing")
        self.assertEqual(expressions.Expression.__module__, "levelwalks.expressions")
        self.assertEqual(statements.Statement.__module__, "levelwalks.statements")
        self.assertEqual(counts.Counts.__module__, "levelwalks.counts")
        for name in ("Use", "Loop", "Block", "Add", "Program"):
            self.assertEqual(getattr(programs, name).__module__, "levelwalks.programs")
        self.assertEqual(running.Result.__module__, "levelwalks.running")
        self.assertEqual(families.Family.__module__, "levelwalks.families")
        self.assertEqual(polynomials.Polynomial.__module__, "levelwalks.polynomials")
        self.assertEqual(judging.Verdict.__module__, "levelwalks.judging")
        for name in ("Shop", "Table", "Batch"):
            self.assertEqual(getattr(shops, name).__module__, "levelwalks.shops")

    def test_each_function_stands_in_its_own_file(self):
        for module, told in FUNCTIONS:
            for name in told:
                function = getattr(module, name)
                self.assertTrue(inspect.isfunction(function), name)
                self.assertEqual((function.__name__, function.__module__), (name, module.__name__))
                self.assertEqual(parameters(function), told[name])

    def test_each_method_stands_in_its_class(self):
        for name in ("text", "KINDS", "read"):
            self.assertIn(name, vars(forms.Form))
        for name in ("walk", "locate", "entries", "restored", "changed", "__getitem__", "__contains__", "__len__"):
            self.assertIn(name, vars(storing.Stored))
        signs = "add sub mul and or xor radd rsub rmul rand ror rxor floordiv mod pow lshift rshift neg pos invert abs"
        for name in ["text", *[f"__{sign}__" for sign in (signs + " iadd isub").split(" ")]]:
            self.assertIn(name, vars(expressions.Expression))
        for name in ("text", "read"):
            self.assertIn(name, vars(statements.Statement))
        for sign in ("add", "iadd", "eq", "lt", "le", "gt", "ge"):
            self.assertIn(f"__{sign}__", vars(counts.Counts))
        for name in ("patterns", "pattern_at", "small_tables"):
            self.assertIn(name, vars(families.Family))
        signs = "call add radd sub rsub mul rmul pow neg eq".split(" ")
        for name in ["constant", "unknown", "without", *[f"__{sign}__" for sign in signs]]:
            self.assertIn(name, vars(polynomials.Polynomial))
        self.assertIn("__bool__", vars(judging.Verdict))
        for name in SHOP_METHODS:
            self.assertIn(name, vars(shops.Shop))
        for name in ("__getitem__", "__contains__", "names", "spent"):
            self.assertIn(name, vars(shops.Shop))
        for name in ("stored", "form", "kept", "__getitem__", "__setitem__", "__contains__", "__len__"):
            self.assertIn(name, vars(shops.Table))
        for name in ("__enter__", "__exit__"):
            self.assertIn(name, vars(shops.Batch))

    def test_properties_and_class_methods(self):
        self.assertIsInstance(vars(forms.Form)["text"], property)
        self.assertIsInstance(vars(expressions.Expression)["text"], property)
        self.assertIsInstance(vars(statements.Statement)["text"], property)
        self.assertIsInstance(vars(statements.Statement)["read"], classmethod)
        self.assertIsInstance(vars(forms.Form)["read"], classmethod)
        for name in ("names", "spent"):
            self.assertIsInstance(vars(shops.Shop)[name], property)
            self.assertIsNone(vars(shops.Shop)[name].fset)
        for name in ("stored", "kept", "form"):
            self.assertIsInstance(vars(shops.Table)[name], property)
            self.assertEqual(vars(shops.Table)[name].fset is not None, name == "form")
        for name in ("constant", "unknown"):
            self.assertIsInstance(vars(polynomials.Polynomial)[name], classmethod)

    def test_the_parameters_of_the_methods(self):
        self.assertEqual(parameters(forms.Form.read), ["text"])
        self.assertEqual(parameters(statements.Statement.read), ["text"])
        self.assertEqual(parameters(storing.Stored.walk), ["level", "place"])
        self.assertEqual(parameters(storing.Stored.locate), ["level", "place", "coordinate"])
        self.assertEqual(parameters(storing.Stored.entries), [])
        self.assertEqual(parameters(storing.Stored.restored), ["form"])
        self.assertEqual(parameters(storing.Stored.changed), ["at", "value"])
        self.assertEqual(parameters(families.Family.patterns), [])
        self.assertEqual(parameters(families.Family.pattern_at), ["tables", "point"])
        self.assertEqual(parameters(families.Family.small_tables), ["pattern", "values"])
        self.assertIsNone(inspect.signature(families.Family.small_tables).parameters["values"].default)
        self.assertEqual(parameters(polynomials.Polynomial.constant), ["n"])
        self.assertEqual(parameters(polynomials.Polynomial.unknown), ["name"])
        self.assertEqual(parameters(polynomials.Polynomial.without), ["names"])
        self.assertEqual(parameters(polynomials.Polynomial.__call__), ["values"])
        for name, told in SHOP_METHODS.items():
            self.assertEqual(parameters(getattr(shops.Shop, name)), told)
        self.assertIsNone(inspect.signature(shops.Shop.table).parameters["cells"].default)
        self.assertIsNone(inspect.signature(making.lower).parameters["order"].default)
        self.assertEqual(parameters(shops.Shop), [])

    def test_the_parameters_of_the_classes(self):
        form = forms.Form("dense", "bits", axes=[1, 0])
        self.assertEqual((form.kinds, form.axes), (("dense", "bits"), (1, 0)))
        table = storing.Stored(cells={(0, 2): 3}, form=form, sizes=[2, 3])
        self.assertEqual(table.sizes, (2, 3))
        self.assertIs(table.form, form)
        self.assertEqual(list(table.entries()), [((0, 2), 3)])
        for told, names in (
            (statements.Statement, ["target", "expression", "sign"]), (counts.Counts, ["turns", "additions"]),
            (programs.Use, ["name", "letters", "form"]), (programs.Loop, ["letter", "leaders", "cases"]),
            (programs.Block, ["nodes"]), (programs.Add, ["expression"]), (programs.Program, ["target", "uses", "node"]),
        ):
            self.assertEqual(parameters(told), names)

    def test_attributes_are_set_when_the_object_is_created(self):
        for name in ("kinds", "axes"):
            self.assertTrue(hasattr(forms.Form("dense"), name))
        for name in ("sizes", "form", "levels", "data"):
            self.assertTrue(hasattr(storing.Stored((), forms.Form(), {}), name))
        c, one = expressions.access("c"), expressions.number(1)
        use, add = programs.Use("a", (), forms.Form()), programs.Add(one)
        for made, names in (
            (statements.Statement(c, one), ("target", "expression", "sign", "letters")),
            (counts.Counts(), ("turns", "additions")),
            (use, ("name", "letters", "form")),
            (programs.Loop("i", (), ()), ("letter", "leaders", "cases")),
            (programs.Block(()), ("nodes",)),
            (add, ("expression",)),
            (programs.Program(c, (use,), add), ("target", "uses", "node", "letters")),
            (running.run(programs.Program(c, (), add), {"c": storing.Stored((), forms.Form(), {})}), ("cells", "trace", "counts")),
            (families.Family(programs.Program(c, (use,), add)), ("members", "letters", "ranks")),
            (polynomials.Polynomial.constant(3), ("terms",)),
            (judging.alike(programs.Program(c, (), add), programs.Program(c, (), add)), (
                "holds", "pattern_count", "sizes", "cells", "point", "binding", "what", "numbers",
            )),
            (shops.Shop().table("a", (), forms.Form()), ("name", "sizes", "stored", "form", "kept")),
        ):
            for name in names:
                self.assertTrue(hasattr(made, name), name)
        gain = expressions.access("a", "i")
        gain += 1
        for x in (expressions.number(1), expressions.access("a"), expressions.number(1) + 1, gain):
            for name in ("kind", "parts", "letters", "accesses", "node_count"):
                self.assertTrue(hasattr(x, name))

    def test_the_kinds_of_values(self):
        table = storing.Stored((2,), forms.Form("bits"), {(1,): 3})
        self.assertIsInstance(table.form.text, str)
        self.assertIs(type(table[(1,)]), int)
        self.assertIs(type(len(table)), int)
        self.assertIs(type(table.walk(0, 0)), tuple)
        self.assertIs(type(table.locate(0, 0, 1)), int)
        self.assertIsNone(table.locate(0, 0, 0))
        self.assertIs((1,) in table, True)
        x = expressions.access("a", "i") + 1
        self.assertIsInstance(tabletexts.table_text(table), str)
        self.assertIsInstance(x.text, str)
        self.assertIs(type(x.parts), tuple)
        self.assertIs(type(x.accesses), tuple)
        self.assertIs(type(x.letters), tuple)
        self.assertIs(type(x.node_count), int)
        self.assertIs(type(expressions.value_of(x, {("a", ("i",)): 2})), int)
        self.assertIsInstance(polynomials.polynomial(x), polynomials.Polynomial)
        self.assertIs(type(polynomials.polynomial(x)({"a[i]": 4})), int)
        program = programs.Program(expressions.access("c"), (), programs.Block(()))
        self.assertIsInstance(programtexts.program_text(program), str)
        self.assertIsInstance(programtexts.read_program("program c[]\nblock"), programs.Program)
        result = running.run(program, {"c": storing.Stored((), forms.Form(), {})})
        self.assertEqual([type(worth) for worth in (result.cells, result.trace)], [dict, tuple])
        self.assertIsInstance(result.counts, counts.Counts)


if __name__ == "__main__":
    unittest.main()
