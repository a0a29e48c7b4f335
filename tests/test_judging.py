"""[31], [41] to [45]: programs that are compared for all tables."""

import unittest
from collections import Counter

from levelwalks.errors import Illegal, NotComparable, NotPolynomial, RankClash
from levelwalks.expressions import access, number
from levelwalks.families import Family
from levelwalks.forms import Form
from levelwalks.functions import equal
from levelwalks.judging import Verdict, alike, full, never_more, right
from levelwalks.programs import Add, Block, Loop, Program, Use
from levelwalks.programtexts import program_text, read_program
from levelwalks.statements import Statement
from levelwalks.storing import Stored
from tests.helper import (
    NOTHING, ONE, Maker, ModelRun, each, is_deep_tuple, model_amount, program_accesses, program_model, use,
)

ATTRIBUTES = ("holds", "pattern_count", "sizes", "cells", "point", "binding", "what", "numbers")
A, B = access("a", "i", "k"), access("b", "k")
TARGET = access("c", "i")
STATEMENT = Statement(TARGET, A * B)
SUM = Statement(TARGET, A + B)
START = "program c[i]\nuse a[i, k] packed 0, packed 1\nuse b[k] packed 0\n"
PRODUCT = START + """each i in 0
when 0
  each k in 0 1
  when 0 1
    add (a[i, k] * b[k])"""
SUM_TEXT = START + """each i in all
when always
  each k in 0 or 1
  when 0 1
    add (a[i, k] + b[k])
  when 0
    add a[i, k]
  when 1
    add b[k]"""


def changed(text, old, new):
    assert old in text
    return read_program(text.replace(old, new))


def sum_program(old="", new=""):
    return changed(SUM_TEXT, old, new)


def told_tables(verdict, *programs):
    """The tables that a verdict tells, in some form."""
    maker = Maker(1)
    ranks = {name: len(letters) for program in programs for name, letters in program_accesses(program)}
    return {
        name: Stored((verdict.sizes,) * ranks[name], maker.form(ranks[name]), cells) for name, cells in verdict.cells.items()
    }


class VerdictCase(unittest.TestCase):
    def check_holds(self, verdict, *programs):
        """Check a verdict that holds for programs."""
        self.assertIsInstance(verdict, Verdict)
        self.assertIs(verdict.holds, True)
        self.assertIs(bool(verdict), True)
        count = len(list(Family(*programs).patterns()))
        self.assertEqual(
            [getattr(verdict, name) for name in ATTRIBUTES], [True, count, None, None, None, None, None, None]
        )

    def check_small(self, verdict, *programs):
        """Check what is told where something does not hold: tables of [37] for some pattern."""
        self.assertIsInstance(verdict, Verdict)
        self.assertIs(verdict.holds, False)
        self.assertIs(bool(verdict), False)
        self.assertIsNone(verdict.pattern_count)
        family = Family(*programs)
        n = len(family.letters)
        self.assertEqual(verdict.sizes, n + 1)
        self.assertEqual(set(verdict.cells), set(family.ranks))
        tables = told_tables(verdict, *programs)
        pattern = family.pattern_at(tables, tuple(range(n)))
        small = family.small_tables(pattern)
        self.assertEqual({name: set(cells) for name, cells in verdict.cells.items()}, {name: set(cells) for name, cells in small.items()})
        return tables

    def check_parted(self, verdict, first, second, amount=None):
        """Check a verdict that two programs, or a program and a statement, add different amounts."""
        tables = self.check_small(verdict, first, second)
        self.assertEqual((verdict.binding, verdict.what), (None, None))
        self.assertEqual(verdict.point, tuple(range(len(first.letters))))
        self.assertTrue(is_deep_tuple(verdict.numbers) and isinstance(verdict.numbers, tuple))
        other = ModelRun(second, tables).sum_at(verdict.point) if amount is None else amount(tables, verdict.point)
        self.assertEqual(verdict.numbers, (ModelRun(first, tables).sum_at(verdict.point), other))
        self.assertNotEqual(*verdict.numbers)

    def check_more(self, verdict, first, second):
        """Check a verdict that the first program makes more turns or additions at some binding."""
        tables = self.check_small(verdict, first, second)
        self.assertIsNone(verdict.point)
        self.assertIn(verdict.what, ("turns", "additions"))
        whole = tuple(zip(first.letters, range(len(first.letters))))
        self.assertIsInstance(verdict.binding, tuple)
        self.assertEqual(verdict.binding, tuple(pair for pair in whole if pair in verdict.binding))
        if verdict.what == "additions":
            self.assertEqual(verdict.binding, whole)
        runs = [ModelRun(program, tables) for program in (first, second)]
        told = [run.turns_at(verdict.binding) if verdict.what == "turns" else run.additions_at(verdict.binding) for run in runs]
        self.assertEqual(verdict.numbers, tuple(told))
        self.assertIsInstance(verdict.numbers, tuple)
        self.assertGreater(*verdict.numbers)


class AlikeTest(VerdictCase):
    def check(self, first, second, holds):
        before = (program_model(first), program_model(second))
        for one, other in ((first, second), (second, first)):
            for verdict in (alike(one, other), alike(second=other, first=one)):
                if holds:
                    self.check_holds(verdict, one, other)
                else:
                    self.check_parted(verdict, one, other)
        self.check_holds(alike(first, first), first)
        self.assertEqual((program_model(first), program_model(second)), before)

    def test_a_program_and_itself(self):
        for text in (PRODUCT, SUM_TEXT):
            self.check(read_program(text), read_program(text), True)

    def test_other_orders_forms_and_leaders(self):
        first = read_program(PRODUCT)
        for second in (
            full(STATEMENT), full(Statement(TARGET, B * A)), changed(PRODUCT, "each i in 0\nwhen 0", "each i in all\nwhen always"),
            changed(PRODUCT, "0 1\n  when 0 1", "0\n  when 0 1"), changed(PRODUCT, "0 1\n  when 0 1", "1 or 0\n  when 1"),
            changed(PRODUCT, "0 1\n  when 0 1", "0 1\n  when always"), changed(PRODUCT, "0 1\n  when 0 1", "0 or 1\n  when 1"),
            changed(PRODUCT, "use b[k] packed 0", "use b[k] bits 0"),
            changed(PRODUCT, "add (a[i, k] * b[k])", "block\n      add ((2 * a[i, k]) * b[k])\n      add (-(b[k] * a[i, k]))"),
            changed(PRODUCT, "when 0 1\n    add (a[i, k] * b[k])", "when 0 1\n    add (a[i, k] * b[k])\n  when always\n    add a[i, k]"),
            read_program(
                "program c[i]\nuse a[i, k] packed 1, packed 0\nuse b[k] hashed 0\neach k in 0\nwhen 1\n  each i in 0\n  when 0\n"
                "    add (b[k] * a[i, k])"
            ),
        ):
            self.check(first, second, True)

    def test_other_sums(self):
        first = sum_program()
        for old, new in (
            ("when 0 1\n    add (a[i, k] + b[k])", "when 0 1\n    block\n      add a[i, k]\n      add b[k]"),
            ("in 0 or 1\n", "in all\n"), ("in 0 or 1\n", "in 0 or 0 1 or 1\n"), ("    add a[i, k]\n", "    add (a[i, k] + b[k])\n"),
            ("packed 0, packed 1", "dense 0, bits 1"), ("  when 1\n    add b[k]", "  when always\n    add b[k]"),
        ):
            self.check(first, sum_program(old, new), True)
        self.check(first, full(SUM), True)

    def test_programs_that_differ(self):
        first = sum_program()
        for old, new in (
            ("in 0 or 1\n", "in 0\n"), ("in 0 or 1\n", "in 1\n"), ("in 0 or 1\n", "in 0 1\n"), ("in 0 or 1\n", "in none\n"),
            ("  when 1\n    add b[k]", "  when 1\n    add (b[k] * b[k])"), ("  when 1\n    add b[k]", "  when 1\n    block"),
            ("add (a[i, k] + b[k])", "add (a[i, k] - b[k])"), ("add a[i, k]\n", "add (a[i, k] + 1)\n"), ("each i in all", "each i in 0"),
            ("  when 0\n    add a[i, k]\n  when 1\n    add b[k]", "  when 1\n    add b[k]"), ("add b[k]", "add (2 * b[k])"),
            ("add (a[i, k] + b[k])", "block\n      add (a[i, k] + b[k])\n      add b[k]"), ("add b[k]", "add 1"),
            ("in 0 or 1\n", "in 0 or 1\n  when always\n    add a[i, k]\n"),
        ):
            self.check(first, sum_program(old, new), False)

    def test_a_difference_that_is_0_at_small_numbers(self):
        product = "add (a[i, k] * b[k])"
        zero = "((((b[k] - 1) * (b[k] - 2)) * (b[k] - 3)) * (a[i, k] - b[k]))"
        self.check(read_program(PRODUCT), changed(PRODUCT, product, f"add ((a[i, k] * b[k]) + {zero})"), False)
        self.check(read_program(PRODUCT), changed(PRODUCT, product, f"add ((a[i, k] * b[k]) + ({zero} - {zero}))"), True)

    def test_programs_that_do_nothing(self):
        uses = read_program(START + "block").uses
        nothing = Program(TARGET, uses, NOTHING)
        self.check(nothing, Program(TARGET, uses, Loop("k", ((1,),), ())), True)
        self.check(nothing, Program(TARGET, uses, each("ki", Add(B - B))), True)
        self.check(nothing, Program(TARGET, uses, each("ki", ONE)), False)
        self.check(Program(access("s"), (), ONE), Program(access("s"), (), NOTHING), False)
        self.check(Program(access("s"), (), Add(number(2))), Program(access("s"), (), Block((ONE, ONE))), True)

    def test_accesses_without_letters(self):
        s = access("s")
        uses = (use("s", ""),)
        self.check(Program(access("c"), uses, Add(s * s)), Program(access("c"), uses, Add(s ** 2)), True)
        self.check(Program(access("c"), uses, Add(s * s)), Program(access("c"), uses, Add(s)), False)

    def test_a_table_that_is_accessed_twice(self):
        uses = (use("a", "ik", "packed 0, packed 1"), use("a", "ki", "bits 0, hashed 1"))
        first = Program(access("c"), uses, Loop("i", ((0,),), (((), Loop("k", ((0,),), (((1,), Add(A * access("a", "k", "i"))),))),)))
        second = Program(access("c"), uses, each("ik", Add(access("a", "k", "i") * A)))
        self.check(first, second, True)
        self.check(first, Program(access("c"), uses, each("ik", Add(A * A))), False)

    def test_the_target_may_be_used(self):
        uses = (use("c", "i", "packed 0"),)
        self.check(Program(TARGET, uses, each("i", Add(TARGET), ((0,),))), Program(TARGET, uses, each("i", Add(TARGET))), True)

    def test_random_programs(self):
        maker, seen = Maker(21), Counter()
        for attempt in range(500):
            first = maker.program()
            second = maker.program(first.target, first.uses)
            verdict = alike(first, second)
            seen[verdict.holds] += 1
            if not verdict.holds:
                self.check_parted(verdict, first, second)
                continue
            self.check_holds(verdict, first, second)
            for trial in range(4):
                tables = maker.tables(program_accesses(first))
                runs = [ModelRun(program, tables) for program in (first, second)]
                for point in {point for run in runs for point, amount in run.trace}:
                    self.assertEqual(runs[0].sum_at(point), runs[1].sum_at(point))
        self.assertGreater(min(seen[True], seen[False]), 100)

    def test_the_errors_in_their_order(self):
        wrong, worse = Program(access("d"), (), each("i", ONE)), Program(access("d", "i"), (), Block((NOTHING, ONE)))
        odd = Program(TARGET, (use("a", "i", "dense 0"),), each("i", Add(equal(access("a", "i"), 1))))
        clashing = Program(TARGET, (use("c", "", "-"), use("a", "", "-")), each("i", Add(abs(access("a")))))
        plain, other = Program(TARGET, (), each("i", ONE)), Program(access("c", "k"), (), each("k", ONE))
        for first, second, error, place in (
            (wrong, worse, Illegal, ()), (worse, wrong, Illegal, (1,)), (plain, worse, Illegal, (1,)), (other, wrong, Illegal, ()),
            (plain, other, NotComparable, None), (other, odd, NotComparable, None), (plain, clashing, RankClash, "c"),
            (clashing, plain, RankClash, "c"), (odd, clashing, RankClash, "c"), (odd, plain, NotPolynomial, None),
            (plain, odd, NotPolynomial, None), (odd, odd, NotPolynomial, None),
        ):
            with self.assertRaises(error) as caught:
                alike(first, second)
            if place is not None:
                self.assertEqual(caught.exception.name if error is RankClash else caught.exception.place, place)
            if error is not NotPolynomial:
                with self.assertRaises(error) as caught:
                    never_more(first, second)
                self.assertEqual(list(vars(caught.exception).values()), [] if place is None else [place])

    def test_unlike_letters_and_targets(self):
        plain = Program(TARGET, (), each("i", ONE))
        for other in (
            Program(access("d", "i"), (), each("i", ONE)), Program(TARGET, (use("b", "k", "dense 0"),), each("ik", ONE)),
            Program(access("c"), (use("b", "i", "dense 0"),), each("i", ONE)), Program(access("c"), (), ONE),
            Program(access("c", "i", "k"), (), each("ik", ONE)), Program(access("c", "j"), (), each("j", ONE)),
        ):
            for first, second in ((plain, other), (other, plain)):
                for compared in (alike, never_more):
                    with self.assertRaises(NotComparable):
                        compared(first, second)
        first, second = (Program(access("c", *letters), (), each("ik", ONE)) for letters in ("ik", "ki"))
        with self.assertRaises(NotComparable):
            alike(first, second)

    def test_an_add_that_is_never_run(self):
        plain = Program(TARGET, (), each("i", ONE))
        never = Program(TARGET, (), Block((each("i", ONE), Loop("i", (), (((), Add(number(1) & 1)),)))))
        for first, second in ((plain, never), (never, plain)):
            with self.assertRaises(NotPolynomial):
                alike(first, second)
        self.check_holds(never_more(plain, never), plain, never)


class RightTest(VerdictCase):
    def check(self, program, statement, holds):
        for verdict in (right(program, statement), right(statement=statement, program=program)):
            if holds:
                self.check_holds(verdict, program, full(statement))
            else:
                self.check_parted(
                    verdict, program, full(statement), lambda tables, point: model_amount(statement, tables, point)
                )

    def test_full_programs(self):
        for statement in (
            STATEMENT, SUM, Statement(access("c", "i", "j"), number(3)), Statement(access("s"), number(0)), Statement(access("s"), access("s")),
            Statement(access("c"), access("a", "i", "k") * access("b", "k")), Statement(TARGET, access("s") + 1),
            Statement(access("c", "z"), (access("b", "i") - access("b", "i")) ** 2), Statement(TARGET, TARGET * TARGET - 1),
            Statement(access("c", "k", "i"), A * access("a", "k", "i") - access("s") ** 3 + 2),
        ):
            for sign in ("=", "+=", "-="):
                self.check(full(statement), Statement(statement.target, statement.expression, sign), True)

    def check_full(self, statement, text):
        program = full(statement)
        self.assertIsInstance(program, Program)
        self.assertEqual(program_text(program), text)
        self.assertEqual(program_text(full(statement=statement)), text)
        self.assertEqual(program.letters, statement.letters)
        self.assertEqual(program_model(program), program_model(read_program(text)))

    def test_the_words_of_full(self):
        self.check_full(Statement(access("c", "k", "i"), access("t", "j", "i", "k") * TARGET + access("c", "i") * 0), (
            "program c[k, i]\nuse t[j, i, k] dense 0, dense 1, dense 2\nuse c[i] dense 0\neach i in all\nwhen always\n"
            "  each j in all\n  when always\n    each k in all\n    when always\n      add ((t[j, i, k] * c[i]) + (c[i] * 0))"
        ))
        self.check_full(Statement(access("c"), access("s") - access("s") - access("u"), "-="), (
            "program c[]\nuse s[] -\nuse u[] -\nadd ((s[] - s[]) - u[])"
        ))
        self.check_full(Statement(access("c", "z"), number(4)), "program c[z]\neach z in all\nwhen always\n  add 4")
        self.check_full(Statement(access("c"), abs(access("a", "i", "k"))), (
            "program c[]\nuse a[i, k] dense 0, dense 1\neach i in all\nwhen always\n  each k in all\n  when always\n    add absolute(a[i, k])"
        ))

    def test_programs(self):
        self.check(read_program(PRODUCT), STATEMENT, True)
        self.check(read_program(PRODUCT), SUM, False)
        self.check(read_program(SUM_TEXT), SUM, True)
        self.check(read_program(SUM_TEXT), Statement(TARGET, B + A, "-="), True)
        self.check(read_program(SUM_TEXT), STATEMENT, False)
        self.check(read_program(SUM_TEXT), Statement(TARGET, A + B + 1), False)

    def test_programs_that_miss_amounts_or_add_them_twice(self):
        for old, new, holds in (
            ("  when 1\n    add b[k]", "  when 1\n    block", False), ("in 0 or 1\n", "in 0\n", False), ("in 0 or 1\n", "in all\n", True),
            ("add a[i, k]\n", "block\n      add a[i, k]\n      add a[i, k]\n", False), ("add a[i, k]\n", "block\n      add a[i, k]\n      add 0\n", True),
            ("each i in all", "each i in 0", False), ("when 0\n    add a[i, k]", "when 0\n    add (a[i, k] + (7 * b[k]))", True),
        ):
            self.check(sum_program(old, new), SUM, holds)

    def test_more_tables_than_the_statement_has(self):
        start = SUM_TEXT.replace("use b[k] packed 0\n", "use b[k] packed 0\nuse d[k] packed 0\n")
        self.check(read_program(start), SUM, True)
        self.check(changed(start, "add b[k]", "add (b[k] + d[k])"), SUM, False)
        self.check(changed(start, "add b[k]", "add (b[k] + (d[k] - d[k]))"), SUM, True)
        self.check(changed(start, "in 0 or 1\n", "in 0 or 1 or 2\n"), SUM, True)
        self.check(changed(start, "  when 1\n", "  when 1 2\n"), SUM, False)

    def test_letters_that_the_expression_has_not(self):
        target = access("c", "i", "j")
        text = "program c[i, j]\nuse b[i] packed 0\neach i in {}\nwhen {}\n  each j in all\n  when always\n    add b[i]"
        for leaders, needs, holds in (("0", "0", True), ("all", "always", True), ("all", "0", True), ("none", "0", False)):
            self.check(read_program(text.format(leaders, needs)), Statement(target, access("b", "i")), holds)

    def test_random_programs(self):
        maker, seen = Maker(31, most_uses=2), Counter()
        for attempt in range(300):
            program = maker.program()
            accesses = program_accesses(program)[1:]
            statement = Statement(program.target, maker.polynomial(accesses), maker.chance.choice(["=", "+=", "-="]))
            if statement.letters != program.letters:
                with self.assertRaises(NotComparable):
                    right(program, statement)
                continue
            verdict = right(program, statement)
            seen[verdict.holds] += 1
            self.check(program, statement, verdict.holds)
            for trial in range(4 if verdict.holds else 0):
                tables = maker.tables(program_accesses(program))
                run = ModelRun(program, tables)
                for point, amount in ModelRun(full(statement), tables).trace:
                    self.assertEqual(run.sum_at(point), amount)
        self.assertGreater(min(seen[True], seen[False]), 20)

    def test_the_errors_in_their_order(self):
        k = access("b", "k")
        plain, wrong = Program(TARGET, (), each("i", ONE)), Program(TARGET, (), ONE)
        odd = Program(TARGET, (use("a", "i", "dense 0"),), each("i", Add(~access("a", "i"))))
        clashing = Program(TARGET, (use("c", "", "-"),), each("i", Add(~access("c"))))
        for program, statement, error in (
            (wrong, Statement(TARGET, k), Illegal), (wrong, Statement(TARGET, ~access("c")), Illegal),
            (plain, Statement(TARGET, k), NotComparable), (odd, Statement(TARGET, k), NotComparable),
            (clashing, Statement(access("d", "i"), number(1)), NotComparable), (plain, Statement(access("c", "k"), number(1)), NotComparable),
            (clashing, Statement(TARGET, number(1)), RankClash), (plain, Statement(TARGET, ~access("c")), RankClash),
            (odd, Statement(TARGET, access("a") + 1), RankClash), (odd, Statement(TARGET, number(1)), NotPolynomial),
            (plain, Statement(TARGET, number(1) & 1), NotPolynomial), (plain, Statement(TARGET, abs(access("a", "i"))), NotPolynomial),
            (plain, Statement(TARGET, access("a", "i") + access("a") ** 2), RankClash),
        ):
            with self.assertRaises(error) as caught:
                right(program, statement)
            if error is Illegal:
                self.assertEqual(caught.exception.place, ())
        with self.assertRaises(RankClash) as caught:
            right(plain, Statement(TARGET, access("a", "i") + access("a") + access("c")))
        self.assertEqual(caught.exception.name, "a")


class NeverMoreTest(VerdictCase):
    def check(self, first, second, holds, back):
        for one, other, wanted in ((first, second, holds), (second, first, back)):
            for verdict in (never_more(one, other), never_more(second=other, first=one)):
                if wanted:
                    self.check_holds(verdict, one, other)
                else:
                    self.check_more(verdict, one, other)
        self.check_holds(never_more(first, first), first)

    def test_fewer_turns(self):
        product = read_program(PRODUCT)
        for old, new, holds, back in (
            ("each i in 0", "each i in all", True, False), ("each k in 0 1", "each k in 0", True, False), ("add", "add", True, True),
            ("each k in 0 1", "each k in 0 or 1", True, False), ("each k in 0 1", "each k in 0 1 or 0", True, False),
            ("each k in 0 1", "each k in none", False, True), ("each k in 0 1", "each k in 1", True, False),
            ("  when 0 1\n", "  when always\n", True, True), ("when 0\n", "when always\n", True, True), ("each i in 0", "each i in 0 or 0", True, True),
            ("use a[i, k] packed", "use a[i, k] bits", True, True), ("use a[i, k] packed", "use a[i, k] dense", True, False),
            ("use b[k] packed", "use b[k] dense", True, False),
        ):
            self.check(product, changed(PRODUCT, old, new), holds, back)
        self.check(product, full(STATEMENT), True, False)

    def test_fewer_additions(self):
        product, add = read_program(PRODUCT), "add (a[i, k] * b[k])"
        self.check(product, changed(PRODUCT, add, "block"), False, True)
        self.check(product, changed(PRODUCT, add, "block\n      add 1\n      add 0"), True, False)
        self.check(product, changed(PRODUCT, add, "add 0"), True, True)
        self.check(product, changed(PRODUCT, add, "block\n      add 1"), True, True)
        always = changed(PRODUCT, "0 1\n  when 0 1", "0\n  when always")
        needed = changed(PRODUCT, "0 1\n  when 0 1", "0\n  when 0 1")
        self.check(needed, always, True, False)
        # Fewer additions, and more turns.
        self.check(product, changed(PRODUCT, "0 1\n  when 0 1\n    " + add, "0\n  when 0 1\n    block"), False, False)

    def test_another_order_of_loops(self):
        first = read_program(PRODUCT)
        second = read_program(
            "program c[i]\nuse a[i, k] packed 1, packed 0\nuse b[k] packed 0\neach k in 0\nwhen 0 1\n  each i in 0\n  when 0\n    add 1"
        )
        self.check(first, second, False, False)

    def test_turns_at_a_part_of_the_point(self):
        uses = read_program(START + "block").uses
        one, two = Program(TARGET, uses, each("i", NOTHING)), Program(TARGET, uses, Block((each("i", NOTHING), each("i", NOTHING))))
        self.check(one, two, True, False)
        verdict = never_more(two, one)
        self.assertEqual((verdict.binding, verdict.what, verdict.numbers), ((("i", 0),), "turns", (2, 1)))
        other = Program(TARGET, uses, each("k", NOTHING))
        self.check(one, other, False, False)
        self.assertEqual(never_more(other, one).binding, (("k", 1),))
        self.check(one, Program(TARGET, uses, each("ik", NOTHING)), True, False)
        self.check(Program(TARGET, uses, each("ki", NOTHING)), Program(TARGET, uses, each("ik", NOTHING)), False, False)

    def test_programs_without_letters(self):
        one, two = Program(access("s"), (), ONE), Program(access("s"), (), Block((ONE, ONE)))
        self.check(one, two, True, False)
        verdict = never_more(two, one)
        self.assertEqual((verdict.sizes, verdict.cells, verdict.binding), (1, {"s": {}}, ()))
        self.assertEqual((verdict.what, verdict.numbers), ("additions", (2, 1)))

    def test_expressions_that_are_no_polynomials(self):
        odd = changed(PRODUCT, "add (a[i, k] * b[k])", "add greater(a[i, k], b[k])")
        self.check(odd, read_program(PRODUCT), True, True)
        self.check(odd, full(Statement(TARGET, ~A ^ B)), True, False)

    def test_random_programs(self):
        maker, seen = Maker(41), Counter()
        for attempt in range(600):
            first = maker.program()
            second = maker.program(first.target, first.uses)
            verdict = never_more(first, second)
            seen[verdict.holds, verdict.what] += 1
            if not verdict.holds:
                self.check_more(verdict, first, second)
                continue
            self.check_holds(verdict, first, second)
            for trial in range(4):
                tables = maker.tables(program_accesses(first))
                runs = [ModelRun(program, tables) for program in (first, second)]
                turns = [Counter(run.bindings) for run in runs]
                additions = [Counter(point for point, amount in run.trace) for run in runs]
                self.assertTrue(turns[0] <= turns[1] and additions[0] <= additions[1])
        self.assertGreater(min(seen.values()), 15)
        self.assertEqual(len(seen), 3)


class VerdictTest(VerdictCase):
    def test_what_is_told_is_the_callers(self):
        program = read_program(PRODUCT)
        verdict = right(program, SUM)
        for cells in verdict.cells.values():
            cells.clear()
        verdict.cells.clear()
        self.check_parted(right(program, SUM), program, full(SUM))

    def test_uses_with_letters_of_many_kinds(self):
        uses = [Use("t", list("zam"), Form("hashed", "packed", "bits", axes=(2, 0, 1))), use("b", "z", "bits 0")]
        t, b = access("t", "z", "a", "m"), access("b", "z")
        inside = Loop("m", ((),), (((0, 1), Add(t * b)),))
        program = Program(access("c", "m"), uses, Loop("z", ((1,),), (((1,), each("a", inside)),)))
        with self.assertRaises(Illegal):
            right(program, Statement(access("c", "m"), t * b))
        inside = Loop("z", ((0, 1),), (((0, 1), Add(t * b)),))
        program = Program(access("c", "m"), uses, each("ma", inside))
        self.check_holds(right(program, Statement(access("c", "m"), t * b)), program, full(Statement(access("c", "m"), t * b)))
        inside = Loop("a", ((),), (((0, 1), Add(t * b)),))
        program = Program(access("c", "m"), uses, Loop("m", ((),), (((), Loop("z", ((0, 1), (1,)), (((1,), inside),))),)))
        self.check_holds(right(program, Statement(access("c", "m"), b * t)), program, full(Statement(access("c", "m"), b * t)))


if __name__ == "__main__":
    unittest.main()
