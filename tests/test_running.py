"""[28], [29]: running programs."""

import unittest
from random import Random

from levelwalks.counts import Counts
from levelwalks.errors import Illegal, NoTable, RankClash, SizeClash, TooLarge
from levelwalks.expressions import access, number
from levelwalks.forms import Form
from levelwalks.functions import equal, greater
from levelwalks.programs import Add, Block, Loop, Program, check
from levelwalks.programtexts import read_program
from levelwalks.running import Result, run
from levelwalks.storing import Stored
from tests.helper import (
    KINDS, NOTHING, ONE, Maker, ModelRun, each, is_deep_tuple, is_legal, program_accesses, program_model, shapes, table, use,
)

A = {(0, 1): 5, (1, 0): -2, (1, 2): 7}
B = {(1,): 10, (2,): 1}
EXAMPLE = """program c[i]
use a[i, k] dense 0, packed 1
use b[k] packed 0
each i in all
when always
  each k in 0 1
  when 0 1
    add (a[i, k] * b[k])"""
LARGEST = 10 ** 60 - 1


def snapshot(tables):
    return {name: (stored.sizes, stored.form.text, stored.levels, stored.data) for name, stored in tables.items()}


class RunTest(unittest.TestCase):
    def check(self, program, tables, cells=None, trace=None, turns=None):
        """Run a program twice, and check the result by the model, and by what is passed."""
        before, model = (snapshot(tables), list(tables), program_model(program)), ModelRun(program, tables)
        for result in (run(program, tables), run(tables=tables, program=program)):
            self.assertIsInstance(result, Result)
            self.assertEqual(result.trace, tuple(model.trace))
            self.assertTrue(is_deep_tuple(result.trace))
            self.assertEqual(result.cells, {at: n for at, n in model.sums.items() if n != 0})
            self.assertIs(type(result.cells), dict)
            self.assertIsInstance(result.counts, Counts)
            self.assertTrue(result.counts == Counts(len(model.bindings), len(model.trace)))
            if cells is not None:
                self.assertEqual(result.cells, cells)
            if trace is not None:
                self.assertEqual(result.trace, trace)
            if turns is not None:
                self.assertEqual(result.counts.turns, turns)
        self.assertEqual((snapshot(tables), list(tables), program_model(program)), before)
        self.assertIsNot(run(program, tables).cells, run(program, tables).cells)

    def example_tables(self, **others):
        return {"a": table((2, 3), A, "dense 0, packed 1"), "b": table((3,), B, "packed 0"), "c": table((2,)), **others}

    def test_the_example(self):
        trace = (((0, 1), 50), ((1, 2), 7))
        self.check(read_program(EXAMPLE), self.example_tables(), {(0,): 50, (1,): 7}, trace, 4)

    def test_the_old_cells_of_the_target_do_not_matter(self):
        tables = self.example_tables(c=table((2,), {(0,): 99, (1,): -LARGEST}))
        self.check(read_program(EXAMPLE), tables, {(0,): 50, (1,): 7})

    def test_tables_in_another_form_than_the_use(self):
        for kinds, axes in shapes(2):
            for kind in KINDS:
                tables = self.example_tables(a=Stored((2, 3), Form(*kinds, axes=axes), A), b=table((3,), B, f"{kind} 0"))
                self.check(read_program(EXAMPLE), tables, {(0,): 50, (1,): 7}, (((0, 1), 50), ((1, 2), 7)), 4)

    def test_each_kind_of_level_as_a_leader(self):
        tables = {"a": table((2, 3), A), "c": table((2,))}
        for kind, many in (("dense", 2 + 6), ("packed", 2 + 3), ("bits", 2 + 3)):
            for first in ("dense", "packed", "bits"):
                uses = (use("a", "ik", f"{first} 0, {kind} 1"),)
                node = each("ik", Add(access("a", "i", "k")), ((0,),))
                self.check(Program(access("c", "i"), uses, node), tables, {(0,): 5, (1,): 5}, turns=many)

    def test_leaders_above_empty_rows(self):
        tables = {"a": table((4, 2), {(2, 0): 3}), "c": table((4,))}
        for first, many in (("dense", 4), ("packed", 1), ("bits", 1)):
            uses = (use("a", "ik", f"{first} 0, packed 1"),)
            node = Loop("i", ((0,),), (((), NOTHING),))
            self.check(Program(access("c", "i"), uses, each("ik", ONE, ((0,),))), tables, {(2,): 1}, turns=many + 1)
            self.check(Program(access("c"), uses, node), {**tables, "c": table(())}, {}, (), many)

    def test_groups(self):
        tables = {"a": table((4,), {(0,): 1, (1,): 2}), "b": table((4,), {(1,): 3, (3,): 4}), "c": table((4,))}
        uses = (use("a", "i", "packed 0"), use("b", "i", "bits 0"))
        for leaders, taken in (
            (((0,),), "01"), (((1,),), "13"), (((0, 1),), "1"), (((0,), (1,)), "013"), (((1,), (0,)), "013"),
            (((0,), (0,)), "01"), (((0, 1), (0, 1), (0,)), "01"), (((),), "0123"), (((0,), ()), "0123"), (((), ()), "0123"),
            ((), ""), (((0, 1), (1,)), "13"),
        ):
            program = Program(access("c", "i"), uses, Loop("i", leaders, (((), ONE),)))
            trace = tuple(((int(c),), 1) for c in taken)
            self.check(program, tables, {point: 1 for point, amount in trace}, trace, len(taken))

    def test_cases(self):
        tables = {"a": table((4,), {(0,): 1, (1,): 2}), "b": table((4,), {(1,): 3, (3,): 4}), "c": table((4,))}
        uses = (use("a", "i", "hashed 0"), use("b", "i", "packed 0"))
        first, second, third = Add(number(1)), Add(access("b", "i")), Add(number(-7))
        for cases, cells in (
            ((), {}), ((((0, 1), first), ((0,), second), ((), third)), {(0,): 0, (1,): 1, (2,): -7, (3,): -7}),
            ((((), first), ((0,), second)), {(0,): 1, (1,): 1, (2,): 1, (3,): 1}), ((((1,), second),), {(1,): 3, (3,): 4}),
            ((((0, 1), NOTHING), ((1,), second), ((0,), first)), {(0,): 1, (3,): 4}),
            ((((0,), Block((first, first, third))), ((1,), second)), {(0,): -5, (1,): -5, (3,): 4}),
        ):
            cells = {at: n for at, n in cells.items() if n != 0}
            self.check(Program(access("c", "i"), uses, Loop("i", ((),), cases)), tables, cells, turns=4)

    def test_uses_without_resolved_levels_live(self):
        empty = {"a": table((2, 2)), "s": table(()), "c": table((2, 2))}
        uses = (use("a", "ik", "packed 0, packed 1"), use("s", ""))
        node = Loop("k", ((),), (((0, 1), each("i", ONE)),))
        self.check(Program(access("c"), uses, node), {**empty, "c": table(())}, {(): 4}, turns=6)
        node = Loop("i", ((),), (((0,), each("k", ONE)), ((1,), each("k", Add(number(3))))))
        self.check(Program(access("c"), uses, node), {**empty, "c": table(())}, {(): 12}, turns=6)

    def test_empty_tables(self):
        for kind, lives in (("dense", True), ("packed", False), ("bits", False), ("hashed", False)):
            tables = {"a": table((3,)), "c": table(())}
            node = Loop("i", ((),), (((0,), ONE),))
            self.check(Program(access("c"), (use("a", "i", f"{kind} 0"),), node), tables, {(): 3} if lives else {}, turns=3)
            if kind != "hashed":
                node = Loop("i", ((0,),), (((0,), ONE),))
                self.check(Program(access("c"), (use("a", "i", f"{kind} 0"),), node), tables, turns=3 if lives else 0)

    def test_levels_that_one_letter_resolves_together(self):
        tables = {"a": table((3, 3), {(0, 1): 4, (2, 2): 5}), "c": table(())}
        for form in ("bits 0, bits 1", "hashed 0, hashed 1", "dense 0, hashed 1", "hashed 0, dense 1", "packed 0, bits 1"):
            node = Loop("k", ((),), (((0,), Loop("i", ((),), (((0,), Add(access("a", "i", "k"))),))),))
            self.check(Program(access("c"), (use("a", "ik", form),), node), tables, {(): 9}, turns=3 + 9)

    def test_packed_levels_below_dense_ones(self):
        tables = {"t": table((2, 2, 3), {(1, 0, 2): 3, (0, 1, 0): 4, (0, 1, 1): -4}), "c": table((2,))}
        for form in ("dense 0, packed 1, packed 2", "dense 0, dense 1, packed 2", "dense 0, packed 1, dense 2"):
            uses = (use("t", "ijk", form),)
            node = each("ijk", Add(access("t", "i", "j", "k")), ((0,),))
            self.check(Program(access("c", "i"), uses, node), tables, {(1,): 3})

    def test_a_table_twice_in_two_forms(self):
        tables = {"a": table((3, 3), {(0, 1): 2, (1, 0): 3, (2, 2): 5, (1, 2): 7}, "hashed 1, bits 0"), "c": table((3, 3))}
        uses = (use("a", "ik", "packed 0, packed 1"), use("a", "ki", "bits 1, hashed 0"))
        inside = Loop("k", ((0,),), (((0, 1), Add(access("a", "i", "k") * access("a", "k", "i"))), ((), ONE)))
        program = Program(access("c", "k", "i"), uses, Loop("i", ((0, 1),), (((), inside),)))
        self.check(program, tables, {(1, 0): 6, (0, 1): 6, (2, 1): 1, (2, 2): 25})

    def test_the_table_of_the_target_among_the_uses(self):
        tables = {"c": table((3,), {(0,): 2, (2,): 5})}
        program = Program(access("c", "i"), (use("c", "i", "packed 0"),), each("i", Add(access("c", "i") ** 2), ((0,),)))
        self.check(program, tables, {(0,): 4, (2,): 25}, (((0,), 4), ((2,), 25)), 2)

    def test_blocks(self):
        tables = {"c": table((2,))}
        node = Block((each("i", ONE), NOTHING, each("i", Block((Add(number(2)), ONE))), Block((NOTHING,))))
        self.check(Program(access("c", "i"), (), node), tables, {(0,): 4, (1,): 4}, (
            ((0,), 1), ((1,), 1), ((0,), 2), ((0,), 1), ((1,), 2), ((1,), 1),
        ), 4)

    def test_one_node_at_several_places(self):
        loop = each("i", ONE)
        self.check(Program(access("c", "i"), (), Block((loop, loop))), {"c": table((3,))}, {(0,): 2, (1,): 2, (2,): 2}, turns=6)

    def test_programs_without_letters(self):
        tables = {"c": table(()), "s": table((), {(): -4})}
        uses = (use("s", ""),)
        self.check(Program(access("c"), uses, Block((Add(access("s") * 2), ONE))), tables, {(): -7}, (((), -8), ((), 1)), 0)
        self.check(Program(access("c"), (), NOTHING), tables, {}, (), 0)

    def test_letters_of_size_1(self):
        tables = {"a": table((1, 1), {(0, 0): 3}), "c": table((1,))}
        for form in ("dense 0, dense 1", "packed 1, packed 0", "bits 0, hashed 1"):
            program = Program(access("c", "k"), (use("a", "ik", form),), each("ki", Add(access("a", "i", "k"))))
            if is_legal(program):
                self.check(program, tables, {(0,): 3}, (((0, 0), 3),), 2)

    def test_points_are_over_all_letters(self):
        tables = {"a": table((2, 1, 2), {(1, 0, 1): 6}), "c": table((1,))}
        node = each("zbm", Add(access("a", "z", "m", "b")), ((),))
        program = Program(access("c", "m"), (use("a", "zmb", "dense 0, dense 2, dense 1"),), node)
        self.check(program, tables, {(0,): 6}, (((0, 0, 0), 0), ((1, 0, 0), 0), ((0, 0, 1), 0), ((1, 0, 1), 6)), 2 + 4 + 4)

    def test_amounts_that_are_0_or_cancel(self):
        tables = {"a": table((3,), {(0,): 4, (1,): -4, (2,): 1}), "c": table(())}
        uses = (use("a", "i", "dense 0"),)
        node = Block((each("i", Add(number(0))), each("i", Add(access("a", "i"))), each("i", Add(number(0) - access("a", "i")))))
        self.check(Program(access("c"), uses, node), tables, {}, tuple(((c % 3,), n) for c, n in enumerate([0, 0, 0, 4, -4, 1, -4, 4, -1])), 9)

    def test_all_kinds_of_expressions(self):
        tables = {"a": table((4,), {(0,): 4, (1,): -4, (3,): 1}), "c": table((4,))}
        x = access("a", "i")
        for expression in (~x, equal(x, 0), greater(x, 2), abs(x), x % 3, x // -3, x << 2, x >> 1, x ** 3, x & 5, x | 2, x ^ 7):
            program = Program(access("c", "i"), (use("a", "i", "hashed 0"),), each("i", Add(expression)))
            self.check(program, tables)

    def test_random_programs(self):
        for maker in (Maker(1), Maker(2, "ij"), Maker(3, "ijkl", 4)):
            added = 0
            for attempt in range(400):
                program = maker.program()
                check(program)
                tables = maker.tables(program_accesses(program))
                self.check(program, tables)
                added += len(run(program, tables).trace) > 0
            self.assertGreater(added, 80)

    def test_axes_of_unlike_sizes(self):
        chance, maker = Random(9), Maker(8)
        for attempt in range(200):
            maker.RANKS = {"a": 2, "b": 1, "t": 3}
            program = maker.program()
            sizes = {letter: chance.randint(1, 4) for letter in "ijk"}
            if len({name for name, letters in program_accesses(program)}) < len(program_accesses(program)):
                continue
            tables = {}
            for name, letters in program_accesses(program):
                cube = maker.tables([(name, letters)], 4)[name]
                shape = tuple(sizes[letter] for letter in letters)
                cells = {at: n for at, n in cube.entries() if all(c < size for c, size in zip(at, shape))}
                tables[name] = Stored(shape, cube.form, cells)
            self.check(program, tables)


class WrongTest(unittest.TestCase):
    tables = {
        "c": table((2,)), "a": table((2, 3)), "b": table((3,)), "s": table(()), "t": table((2, 3, 4)), "x": table((4, 4)),
    }

    def check(self, target, uses, error, attribute, node=NOTHING):
        program = Program(target, uses, node)
        with self.assertRaises(error) as caught:
            run(program, self.tables)
        told = caught.exception
        self.assertEqual(getattr(told, {Illegal: "place", SizeClash: "letter"}.get(error, "name")), attribute)

    def test_illegal_programs_come_first(self):
        missing = (use("q", "i", "dense 0"),)
        self.check(access("c", "i"), missing, Illegal, (), ONE)
        self.check(access("q", "i"), (), Illegal, (0,), each("i", Loop("i", (), ())))
        self.check(access("c", "i"), missing, Illegal, (1, 0), Block((NOTHING, each("i", Add(access("b", "i"))))))
        self.check(access("c", "i", "k"), (), Illegal, (0, 0), each("ik", Add(access("a", "i", "k"))))

    def test_missing_tables_and_wrong_numbers_of_axes(self):
        c, b = access("c", "i"), use("b", "k", "dense 0")
        for target, uses, error, name in (
            (access("q"), (), NoTable, "q"), (access("q"), (use("r", ""),), NoTable, "q"), (c, (use("r", ""), use("q", "")), NoTable, "r"),
            (access("c"), (), RankClash, "c"), (c, (b, use("a", "i", "bits 0"), use("q", "")), RankClash, "a"),
            (c, (b, use("q", ""), use("a", "i", "bits 0")), NoTable, "q"), (access("c"), (use("q", ""),), RankClash, "c"),
            (access("s", "i"), (use("a", "ki", "dense 0, dense 1"),), RankClash, "s"), (c, (use("c", ""),), RankClash, "c"),
            (c, (use("a", "ki", "dense 0, dense 1"), use("b", "")), RankClash, "b"),
        ):
            self.check(target, uses, error, name)
            self.check(target, uses, error, name, Block((Loop("i", (), ()),) if "i" in target.letters else ()))

    def test_sizes_that_clash(self):
        c = access("c", "i")
        for target, uses, letter in (
            (c, (use("a", "ki", "dense 0, dense 1"),), "i"), (c, (use("b", "i", "packed 0"),), "i"),
            (c, (use("x", "zi", "dense 0, dense 1"), use("b", "z", "packed 0")), "i"),
            (access("s"), (use("x", "yz", "dense 0, dense 1"), use("a", "yz", "dense 0, dense 1")), "y"),
            (access("s"), (use("x", "yz", "dense 0, dense 1"), use("a", "zy", "dense 0, dense 1")), "y"),
            (access("s"), (use("x", "yz", "dense 0, dense 1"), use("b", "z", "dense 0")), "z"),
            (access("a", "i", "k"), (use("t", "kij", "dense 0, dense 1, dense 2"),), "i"),
        ):
            self.check(target, uses, SizeClash, letter)
            self.check(target, uses + (use("q", ""),), NoTable, "q")

    def test_tables_that_no_access_names_do_not_matter(self):
        self.assertEqual(run(Program(access("s"), (), ONE), self.tables).cells, {(): 1})


class LargeTest(unittest.TestCase):
    def check(self, node, at, cells=None, target=access("c", "i")):
        tables = {"h": table((3,), {(1,): LARGEST, (2,): -LARGEST}), "c": table((3,)), "s": table(()), "d": table((3, 3))}
        program = Program(target, (use("h", "i", "packed 0"), use("h", "k", "dense 0")), node)
        if at is None:
            self.assertEqual(run(program, tables).cells, cells)
            return
        for attempt in range(2):
            with self.assertRaises(TooLarge) as caught:
                run(program, tables)
            self.assertEqual(caught.exception.at, at)

    def test_the_least_coordinates(self):
        h, one = access("h", "i"), Loop("k", ((),), ())
        self.check(each("ik", Add(h)), (1,))
        self.check(each("ki", Add(h)), (1,))
        self.check(each("ki", Add(access("h", "k") * 2)), None, {})
        self.check(each("ki", Add(access("h", "k") * 2 + 1)), None, {(0,): 3, (1,): 3, (2,): 3})
        self.check(each("ik", Add(h - access("h", "k") * access("h", "k"))), (0,))
        self.check(each("ki", Add(access("h", "i") * access("h", "k") + 1)), None, {(0,): 3, (1,): 3, (2,): 3})
        self.check(each("ki", Add(access("h", "i") - 1)), (1,))
        self.check(Block((one, each("ki", Add(access("h", "i") - access("h", "k"))))), (1,))
        self.check(each("ki", Add(access("h", "i") - access("h", "k") + 1)), (0, 2), target=access("d", "i", "k"))
        self.check(each("ki", Add(access("h", "k") - access("h", "i") + 1)), (0, 2), target=access("d", "k", "i"))

    def test_sums_that_are_large_for_a_while_only(self):
        h = access("h", "i")
        self.check(Block((each("ik", Add(h)), each("ik", Add(-h)))), None, {})
        self.check(Block((each("ik", Add(h * h)), each("ik", Add(1 - h * h)))), None, {(0,): 3, (1,): 3, (2,): 3})
        self.check(each("ik", Add(number(10 ** 80))), (0,))
        self.check(each("ik", Add(h)), None, {}, access("s"))
        self.check(each("ik", Add(h + 1)), None, {(): 9}, access("s"))

    def test_the_greatest_sum_that_is_not_large(self):
        tables = {"c": table((1,)), "h": table((1,), {(0,): LARGEST - 1})}
        for n, large in ((1, False), (2, True)):
            node = Block((each("i", Add(access("h", "i"))), each("i", Add(number(n)))))
            program = Program(access("c", "i"), (use("h", "i", "hashed 0"),), node)
            if large:
                with self.assertRaises(TooLarge) as caught:
                    run(program, tables)
                self.assertEqual(caught.exception.at, (0,))
            else:
                self.assertEqual(run(program, tables).cells, {(0,): LARGEST})


if __name__ == "__main__":
    unittest.main()
