"""The rules of LANGUAGE.md that can be seen in single lines, names and statements of the package."""

import ast
import builtins
import pathlib
import re
import unittest

import levelwalks

FOLDER = pathlib.Path(levelwalks.__file__).parent
BUILTINS = set(
    "len range enumerate zip min max sum abs sorted reversed int str bool bytes list tuple dict set frozenset"
    " isinstance ord chr repr any all divmod iter next super property staticmethod classmethod object float"
    " Exception ValueError TypeError KeyError IndexError LookupError ZeroDivisionError ArithmeticError"
    " OverflowError RuntimeError NotImplementedError AttributeError StopIteration NotImplemented".split()
)
METHODS = set(
    "init eq repr str len enter exit call iter lt le gt ge ne add sub mul floordiv mod pow and or xor lshift"
    " rshift radd rsub rmul rfloordiv rmod rand ror rxor rlshift rrshift iadd isub imul ifloordiv imod ipow"
    " iand ior ixor ilshift irshift neg pos invert abs bool contains getitem setitem".split()
)
NOWHERE = set("register mro elements open input law version_info with_traceback add_note".split())
NO_NAMES = set(
    "attrgetter breakpoint builtins compile copyright credits delattr dir eval exec exit gc getattr globals"
    " hasattr help id importlib license locals methodcaller os quit setattr type vars sys".split()
)
NO_WORDS = (
    "type typing typing_extensions enum Enum IntEnum StrEnum Flag IntFlag Generic Protocol ABC ABCMeta"
    " namedtuple NamedTuple TypedDict TYPE_CHECKING abstractmethod".split()
)
NO_PARTS = ("dataclass", "overload", "contextmanager")
# Generator expressions and `+=` are barred in most places beside operators, so they are not used at all.
NO_NODES = (
    ast.Global, ast.AsyncFunctionDef, ast.AsyncFor, ast.AsyncWith, ast.Await, ast.Div, ast.MatMult, ast.Import,
    ast.GeneratorExp, ast.AugAssign,
)
# The methods of builtin values in L25 that are called anywhere, without those that other rules bar beside operators.
BUILTIN_METHODS = set(
    "append clear copy count endswith extend find get index insert isalnum isalpha isdigit islower isspace isupper"
    " items join keys ljust lower lstrip partition pop remove replace reverse rfind rjust rpartition rsplit rstrip"
    " setdefault split splitlines startswith strip update upper values zfill bit_length removeprefix removesuffix"
    " isascii isdecimal".split()
)
AT_TOP = (ast.ImportFrom, ast.FunctionDef, ast.ClassDef, ast.Assign, ast.AnnAssign)


def files():
    return sorted(FOLDER.rglob("*.py"))


def trees():
    return [(path.name, ast.parse(path.read_text(encoding="utf-8"))) for path in files()]


def nodes():
    for name, tree in trees():
        for node in ast.walk(tree):
            yield f"{name}:{getattr(node, 'lineno', 0)}", node


def bound_names(node):
    """The names that a node gives a meaning to."""
    if isinstance(node, ast.Name) and isinstance(node.ctx, ast.Store):
        return [node.id]
    if isinstance(node, ast.arg):
        return [node.arg]
    if isinstance(node, (ast.FunctionDef, ast.ClassDef)):
        return [node.name]
    if isinstance(node, ast.ExceptHandler) and node.name is not None:
        return [node.name]
    if isinstance(node, ast.ImportFrom):
        return [each.asname or each.name for each in node.names]
    return []


def methods_and_attributes():
    methods, attributes = set(), set()
    for where, node in nodes():
        if isinstance(node, ast.ClassDef):
            plain = [part for part in node.body if isinstance(part, ast.FunctionDef) and not part.decorator_list]
            methods |= {part.name for part in plain}
        if isinstance(node, ast.Attribute) and isinstance(node.ctx, ast.Store):
            attributes.add(node.attr)
    return methods, attributes


class LanguageTest(unittest.TestCase):
    def test_files(self):
        self.assertTrue((FOLDER / "__init__.py").is_file())
        self.assertLessEqual(len(files()), 100)
        for path in FOLDER.rglob("*"):
            if path.is_file() and path.parent.name != "__pycache__":
                with self.subTest(path.name):
                    self.assertRegex(path.name, r"^[a-z0-9_]+\.py$")

    def test_characters_and_sizes(self):
        for path in files():
            text = path.read_bytes().decode("utf-8")
            self.assertLessEqual(text.count("\n"), 399, path.name)
            for number, line in enumerate(text.split("\n"), 1):
                with self.subTest(path.name, line=number):
                    self.assertRegex(line, r"^[ -~]{0,120}$")
        for where, node in nodes():
            if isinstance(node, ast.FunctionDef):
                self.assertLessEqual(node.end_lineno - node.lineno + 1, 40, where)

    def test_words(self):
        for path in files():
            text = path.read_text(encoding="utf-8")
            for word in NO_WORDS:
                self.assertIsNone(re.search(rf"\b{word}\b", text), (path.name, word))
            for part in NO_PARTS:
                self.assertNotIn(part, text, path.name)

    def test_statements_at_the_top(self):
        for name, tree in trees():
            for node in tree.body:
                docstring = isinstance(node, ast.Expr) and node == tree.body[0]
                with self.subTest(name, line=node.lineno):
                    self.assertTrue(docstring or isinstance(node, AT_TOP))

    def test_imports(self):
        for where, node in nodes():
            if isinstance(node, ast.ImportFrom) and node.module != "__future__":
                with self.subTest(where):
                    self.assertEqual(node.level, 0)
                    self.assertRegex(node.module, r"^levelwalks\.[a-z0-9_]+$")
                    tree = ast.parse((FOLDER / (node.module.split(".")[1] + ".py")).read_text(encoding="utf-8"))
                    here = [name for part in tree.body for name in bound_names(part)]
                    here += [name for part in tree.body if isinstance(part, ast.Assign)
                             for target in part.targets for name in bound_names(target)]
                    imported = [name for part in tree.body if isinstance(part, ast.ImportFrom)
                                for name in bound_names(part)]
                    for each in node.names:
                        self.assertIn(each.name, here)
                        self.assertNotIn(each.name, imported)

    def test_nodes_that_are_not_used(self):
        for where, node in nodes():
            with self.subTest(where):
                self.assertNotIsInstance(node, NO_NODES)
                if isinstance(node, ast.Constant):
                    self.assertNotIsInstance(node.value, (float, complex))
                if isinstance(node, ast.Compare):
                    for sign, right in zip(node.ops, node.comparators):
                        if isinstance(sign, (ast.Is, ast.IsNot)):
                            self.assertIn(ast.unparse(right), ("None", "True", "False"))
                if isinstance(node, (ast.For, ast.comprehension)):
                    self.assertNotIsInstance(node.iter, (ast.Set, ast.SetComp))

    def test_names(self):
        for where, node in nodes():
            for name in bound_names(node):
                with self.subTest(where, name=name):
                    if not (name.startswith("__") and name[2:-2] in METHODS):
                        self.assertRegex(name, r"^[A-Za-z][A-Za-z0-9_]*$")
                        self.assertNotIn(name, NO_NAMES | NOWHERE | set(vars(builtins)))
            if isinstance(node, ast.Attribute):
                self.assertNotIn(node.attr, NOWHERE | {"sort", "format", "format_map"}, where)
                self.assertFalse(node.attr.startswith("_") and node.attr != "__init__", where)

    def test_builtins(self):
        for where, node in nodes():
            if isinstance(node, ast.Name) and node.id in vars(builtins):
                self.assertIn(node.id, BUILTINS, where)

    def test_decorators(self):
        for where, node in nodes():
            if isinstance(node, ast.ClassDef):
                self.assertEqual(node.decorator_list, [], where)
            if isinstance(node, ast.FunctionDef):
                for mark in node.decorator_list:
                    self.assertRegex(ast.unparse(mark), r"^(property|staticmethod|classmethod|\w+\.setter)$", where)

    def test_no_local_name_is_that_of_an_import_or_a_class(self):
        for name, tree in trees():
            tops = {part for node in tree.body if isinstance(node, (ast.ImportFrom, ast.ClassDef))
                    for part in bound_names(node)}
            inner = [node for top in tree.body if not isinstance(top, ast.ImportFrom) for node in ast.walk(top)
                     if node != top or not isinstance(top, ast.ClassDef)]
            for node in inner:
                if not isinstance(node, ast.FunctionDef):
                    self.assertEqual(tops & set(bound_names(node)), set(), f"{name}:{getattr(node, 'lineno', 0)}")

    def test_methods_that_are_called(self):
        methods, attributes = methods_and_attributes()
        marked = {node.name for where, node in nodes() if isinstance(node, ast.FunctionDef) and node.decorator_list}
        for where, node in nodes():
            if isinstance(node, ast.Call) and isinstance(node.func, ast.Attribute):
                self.assertIn(node.func.attr, BUILTIN_METHODS | methods | marked, where)

    def test_attributes_that_are_read(self):
        methods, attributes = methods_and_attributes()
        known = attributes | methods | BUILTIN_METHODS | {"setter"} | {
            part.name for where, node in nodes() if isinstance(node, ast.ClassDef)
            for part in node.body if isinstance(part, ast.FunctionDef)
        } | {
            target.id for where, node in nodes() if isinstance(node, ast.ClassDef)
            for part in node.body if isinstance(part, ast.Assign) for target in part.targets
        }
        for where, node in nodes():
            if isinstance(node, ast.Attribute) and isinstance(node.ctx, ast.Load):
                self.assertIn(node.attr, known, where)

    def test_errors_are_raised_on_the_spot(self):
        names = {node.name for where, node in nodes() if isinstance(node, ast.ClassDef)} | {"TypeError"}
        for where, node in nodes():
            if isinstance(node, ast.Raise) and node.exc is not None:
                self.assertIsInstance(node.exc, ast.Call, where)
                self.assertIn(ast.unparse(node.exc.func), names, where)
            if isinstance(node, ast.ExceptHandler):
                self.assertIsInstance(node.type, ast.Name, where)
                self.assertIn(node.type.id, names | {"KeyError", "ZeroDivisionError"}, where)

    def test_classes_with_items_are_not_iterated(self):
        for where, node in nodes():
            if isinstance(node, ast.ClassDef):
                names = [part.name for part in node.body if isinstance(part, ast.FunctionDef)]
                self.assertTrue("__getitem__" not in names or "__iter__" in names, where)
                self.assertEqual("__eq__" in names, "__lt__" in names, where)

    def test_sets_stand_in_sorted_or_len(self):
        for where, node in nodes():
            for inner in ast.iter_child_nodes(node):
                if isinstance(inner, (ast.Set, ast.SetComp)) or ast.unparse(inner).startswith("set("):
                    self.assertIsInstance(node, (ast.Call, ast.Compare), where)

    def test_stars_of_calls_stand_before_names(self):
        for where, node in nodes():
            for part in node.args if isinstance(node, ast.Call) else ():
                if isinstance(part, ast.Starred):
                    base = part.value.value if isinstance(part.value, ast.Attribute) else part.value
                    self.assertIsInstance(base, ast.Name, where)

    def test_what_is_iterated_at_once_is_not_passed_on(self):
        takers = {"list", "tuple", "dict", "sorted", "sum", "any", "all", "enumerate", "zip", "min", "max"}
        for where, node in nodes():
            for part in node.args if isinstance(node, ast.Call) else ():
                if isinstance(part, ast.Call) and ast.unparse(part.func) in ("range", "zip", "enumerate"):
                    self.assertIn(ast.unparse(node.func), takers, where)

    def test_powers_have_literal_exponents(self):
        for where, node in nodes():
            if isinstance(node, ast.BinOp) and isinstance(node.op, ast.Pow):
                self.assertIsInstance(node.right, ast.Constant, where)

    def test_no_name_is_a_method_and_an_attribute(self):
        methods, attributes = methods_and_attributes()
        self.assertEqual(methods & attributes, set())


if __name__ == "__main__":
    unittest.main()
