"""[32], [33]: the texts of programs."""

import re
import unittest
from functools import lru_cache
from random import Random

from levelwalks.errors import BadText
from levelwalks.expressions import access, number
from levelwalks.forms import Form
from levelwalks.functions import equal
from levelwalks.programs import Add, Block, Loop, Program, Use
from levelwalks.programtexts import program_text, read_program
from tests.helper import (
    EXPRESSION, KINDS, NOTHING, ONE, Maker, built, changed_texts, deep_models, each, first_wrong, program_model, use,
)

C = access("c", "i")
EXAMPLE = """program c[i]
use a[i, k] dense 0, packed 1
use b[k] packed 0
each i in all
when always
  each k in 0 1
  when 0 1
    add (a[i, k] * b[k])"""
NESTED = """program cc[]
use s[] -
block
  add 1
  block
  block
    block
  each i in none
  each k in 0 or all or 1 2
  when 3
    block
      each i in all
      when always
        add s[]
      when 0 0
        block
    """.rstrip() + """
  when always
    add -3
  add (-3)"""


def example():
    uses = (use("a", "ik", "dense 0, packed 1"), use("b", "k", "packed 0"))
    inside = Loop("k", ((0, 1),), (((0, 1), Add(access("a", "i", "k") * access("b", "k"))),))
    return Program(C, uses, each("i", inside))


def nested():
    inner = Block([Loop("i", [[]], [([], Add(access("s"))), ([0, 0], NOTHING)])])
    loop = Loop("k", [[0], [], [1, 2]], [([3], inner), ([], Add(number(-3)))])
    nodes = [ONE, NOTHING, Block([NOTHING]), Loop("i", [], []), loop, Add(-number(3))]
    return Program(access("cc"), [use("s", "")], Block(nodes))


def model_text(program):
    """The text of a program by the document, from the inside to the outside."""
    lines = ["program " + program.target.text]
    for each_use in program.uses:
        lines.append(f"use {access(each_use.name, *each_use.letters).text} {each_use.form.text}")
    return "\n".join(lines + model_lines(program.node))


def model_lines(node):
    if isinstance(node, Add):
        return [f"add {node.expression.text}"]
    if isinstance(node, Block):
        return ["block"] + ["  " + line for inside in node.nodes for line in model_lines(inside)]
    groups = [" ".join(map(str, group)) or "all" for group in node.leaders]
    lines = [f"each {node.letter} in {' or '.join(groups) or 'none'}"]
    for needs, inside in node.cases:
        lines += ["when " + (" ".join(map(str, needs)) or "always")]
        lines += ["  " + line for line in model_lines(inside)]
    return lines


# A grammar of the lines, for all beginnings at once: a symbol is a pair of a kind of line, or of several, and a depth.
ACCESS = r"([a-z]{1,8})\[((?:[a-z](?:, [a-z]){0,2})?)\]"
NUMBERS = r"(?:0|[1-9][0-9]*)(?: (?:0|[1-9][0-9]*))*"
GROUP = f"(?:all|{NUMBERS})"
LINES = {
    "program": f"program {ACCESS}",
    "use": f"use {ACCESS} (.*)",
    "add": "add (.*)",
    "block": "block",
    "each": f"each [a-z] in (?:none|{GROUP}(?: or {GROUP})*)",
    "when": f"when (?:always|{NUMBERS})",
}


def is_form(text, rank):
    if rank == 0:
        return text == "-"
    levels = re.fullmatch(r"(?:(?:dense|packed|bits|hashed) [0-2](?:, |$))+", text)
    axes = sorted(re.findall("[0-2]", text))
    return levels is not None and not text.endswith(" ") and axes == [str(axis) for axis in range(rank)]


@lru_cache(maxsize=None)
def is_expression(text):
    return first_wrong(text, (EXPRESSION,)) is None


@lru_cache(maxsize=None)
def is_line(line, kind, depth):
    found = re.fullmatch("  " * depth + LINES[kind], line)
    if found is None or "\n" in line:
        return False
    if kind in ("program", "use"):
        letters = found.group(2).split(", ") if found.group(2) else []
        if len(set(letters)) < len(letters):
            return False
        return kind == "program" or is_form(found.group(3), len(letters))
    return kind != "add" or is_expression(found.group(1))


def opened(stack):
    """All sequences that a sequence can stand for, as far as to their first lines."""
    if not stack or stack[0][0] in LINES:
        return [stack]
    (kind, depth), rest = stack[0], stack[1:]
    starts = {
        "uses": [(), (("use", 0), ("uses", 0))],
        "node": [(("add", depth),), (("block", depth), ("nodes", depth + 1)), (("each", depth), ("cases", depth))],
        "nodes": [(), (("node", depth), ("nodes", depth))],
        "cases": [(), (("when", depth), ("node", depth + 1), ("cases", depth))],
    }[kind]
    return [found for start in starts for found in opened(start + rest)]


def first_wrong_line(text):
    """The number of the line with which no text goes on, one more than the lines, or None if it is a text."""
    stacks = {(("program", 0), ("uses", 0), ("node", 0))}
    lines = text.split("\n")
    for at, line in enumerate(lines, 1):
        behind = {stack[1:] for stack in stacks if stack and is_line(line, *stack[0])}
        stacks = {found for stack in behind for found in opened(stack)}
        if not stacks:
            return at
    return None if () in stacks else len(lines) + 1


def refused_line(text):
    """The number that the error tells, or None if the text is read."""
    try:
        read_program(text)
    except BadText as error:
        return error.line
    return None


def some_programs(many=40):
    maker = Maker(3)
    return [example(), nested()] + [maker.program() for number_of in range(many)]


class TextTest(unittest.TestCase):
    def check(self, program, text):
        before = program_model(program)
        self.assertEqual(program_text(program), text)
        self.assertEqual(program_text(program=program), text)
        self.assertEqual(program_model(program), before)
        self.assertEqual(program_model(read_program(text)), before)
        self.assertEqual(program_text(read_program(text=text)), text)

    def test_the_example(self):
        self.check(example(), EXAMPLE)

    def test_blocks_and_loops(self):
        self.check(nested(), NESTED)

    def test_nodes_alone(self):
        for node, lines in (
            (ONE, "add 1"), (NOTHING, "block"), (Loop("i", (), ()), "each i in none"), (Loop("z", ((),), ()), "each z in all"),
            (Loop("i", ((), ()), ()), "each i in all or all"), (Loop("i", ((12, 3), (), (0,)), ()), "each i in 12 3 or all or 0"),
            (Loop("i", (), (((), ONE),)), "each i in none\nwhen always\n  add 1"),
            (Loop("i", ((5,),), (((0, 10), NOTHING), ((), Loop("i", (), ())))),
             "each i in 5\nwhen 0 10\n  block\nwhen always\n  each i in none"),
            (Block((Loop("i", (), (((), Loop("k", (), (((1,), NOTHING),))),)), ONE)),
             "block\n  each i in none\n  when always\n    each k in none\n    when 1\n      block\n  add 1"),
        ):
            self.check(Program(access("c"), (), node), "program c[]\n" + lines)

    def test_targets_and_uses(self):
        uses = [use("s", ""), use("abcdefgh", "zay", "bits 2, hashed 0, packed 1"), use("s", ""), use("c", "i", "dense 0")]
        text = (
            "program abcdefgh[z, a, y]\nuse s[] -\nuse abcdefgh[z, a, y] bits 2, hashed 0, packed 1\nuse s[] -\n"
            "use c[i] dense 0\nblock"
        )
        self.check(Program(access("abcdefgh", "z", "a", "y"), uses, NOTHING), text)

    def test_each_kind_of_expression(self):
        for model in deep_models(40):
            self.check(Program(C, (), Add(built(model))), "program c[i]\nadd " + built(model).text)

    def test_one_node_at_several_places(self):
        loop = Loop("i", ((),), (((0,), ONE), ((), ONE)))
        lines = ["each i in all", "when 0", "  add 1", "when always", "  add 1"]
        text = "\n".join(["program c[i]", "block"] + ["  " + line for line in lines + lines])
        self.check(Program(C, (), Block((loop, loop))), text)

    def test_nodes_within_one_another(self):
        node, lines = ONE, ["add 1"]
        for depth in range(20):
            if depth % 2:
                node, lines = Block((node, NOTHING)), ["block"] + ["  " + line for line in lines + ["block"]]
            else:
                node = Loop("i", ((depth,),), (((), node), ((depth,), NOTHING)))
                lines = [f"each i in {depth}", "when always"] + ["  " + line for line in lines] + [f"when {depth}", "  block"]
            self.check(Program(C, (), node), "\n".join(["program c[i]", *lines]))

    def test_random_programs(self):
        for program in some_programs(200):
            self.check(program, model_text(program))

    def test_many_letters_and_uses(self):
        uses = [Use(name, list(letters), Form(*KINDS[:3])) for name, letters in (("a", "abc"), ("b", "def"), ("d", "ghi"))]
        program = Program(access("c", "x", "y", "z"), uses * 4, Add(equal(access("a", "k", "l", "m"), 2)))
        self.check(program, model_text(program))


class RefusedTest(unittest.TestCase):
    def check(self, text, line):
        with self.subTest(text):
            self.assertEqual(refused_line(text), line)
            self.assertEqual(first_wrong_line(text), line)

    def test_the_start(self):
        for text, line in (
            ("", 1), (" ", 1), ("\n", 1), ("program", 1), ("program ", 1), ("program c", 1), ("program c[i]", 2),
            ("program c[i] ", 1), (" program c[i]", 1), ("program  c[i]", 1), ("Program c[i]\nblock", 1), ("program c[i]\n", 2),
            ("program c[i]\n\nblock", 2), ("program 3\nblock", 1), ("program c[i, i]\nblock", 1), ("add 1", 1),
            ("program c[i,k]\nblock", 1), ("program c[i, k, l, m]\nblock", 1), ("program abcdefghi[]\nblock", 1),
            ("program c[]\nprogram c[]\nblock", 2), ("program (c[] + 1)\nblock", 1), ("program c[]\nblock", None),
            ("block", 1), ("use a[] -\nblock", 1),
        ):
            self.check(text, line)

    def test_uses(self):
        for told, line in (
            ("a[] -", None), ("a[]", 2), ("a[] ", 2), ("a[]  -", 2), ("a -", 2), ("a[i] dense 0", None), ("a[i] -", 2),
            ("a[i] dense 1", 2), ("a[i] dense", 2), ("a[i] dense 0, packed 1", 2), ("a[i, k] dense 0", 2), ("a[] dense 0", 2),
            ("a[i, i] dense 0, packed 1", 2), ("a[i, k] dense 0, packed 0", 2), ("a[i, k] packed 1, dense 0", None),
            ("a[i, k] packed 1,dense 0", 2), ("a[i, k] packed 1, thick 0", 2), ("a[i, k] packed 1, dense 0 ", 2),
            ("a[i, k, l, m] dense 0, dense 1, dense 2, dense 3", 2), ("abcdefghi[] -", 2), ("abcdefgh[] -", None),
            ("A[] -", 2), ("3 -", 2), ("(-a[]) -", 2), ("a[i] dense +0", 2), ("a[i] dense 00", 2), ("a[i] dense -0", 2),
            ("s[", 2), ("s[i", 2), ("s] -", 2), ("s[] -\nuse", 3), ("s[] -\nuse ", 3), ("s[] -\n use s[] -", 3),
        ):
            self.check(f"program c[]\nuse {told}\nblock", line)
        self.check("program c[]\nblock\nuse a[] -", 3)
        self.check("program c[]\nuse a[] -\nprogram c[]\nblock", 3)

    def test_adds(self):
        for told, line in (
            ("add 1", None), ("add", 2), ("add ", 2), ("add  1", 2), (" add 1", 2), ("add 01", 2), ("add +1", 2), ("add a", 2),
            ("add a[i, i]", 2), ("add (a[] ** 5)", 2), ("add (a[] + 1", 2), ("add 1 ", 2), ("add 1\nadd 1", 3), ("add 1\n", 3),
            ("add 1\n  add 1", 3), ("add (a[] += 1)", 2), ("add 1\nwhen always", 3), ("Add 1", 2), ("add1", 2),
        ):
            self.check(f"program c[]\n{told}", line)

    def test_blocks(self):
        for told, line in (
            ("block", None), ("block ", 2), ("blocks", 2), ("block\n  block", None), ("block\n block", 3), ("block\nblock", 3),
            ("block\n   block", 3), ("block\n    block", 3), ("block\n  block\n    add 1\n  add 1\n  block\n    block", None),
            ("block\n  add 1\n    add 1", 4), ("block\n  block\n\n  block", 4), ("block\n  ", 3), ("block\n  when always", 3),
            ("block\n  block\n    block\n add 1", 5), ("block\n\tadd 1", 3), ("block 1", 2), ("block\n  use a[] -", 3),
        ):
            self.check(f"program c[]\n{told}", line)

    def test_loops(self):
        for told, line in (
            ("each i in none", None), ("each i in", 2), ("each i in ", 2), ("each i", 2), ("each", 2), ("each in all", 2),
            ("each ij in all", 2), ("each I in all", 2), ("each 0 in all", 2), ("each  in all", 2), ("each in in all", 2),
            ("each i  in all", 2), ("each i in  all", 2), ("each i in all ", 2), ("each i of all", 2), ("each i in always", 2),
            ("each i in none or 0", 2), ("each i in 0 or none", 2), ("each i in all all", 2), ("each i in all 0", 2),
            ("each i in 0 or", 2), ("each i in or 0", 2), ("each i in 0 or or 1", 2), ("each i in 0 or 1 or", 2),
            ("each i in 0 1 or 2 0 or all or 7 7", None), ("each i in 00", 2), ("each i in 01", 2), ("each i in +1", 2),
            ("each i in -1", 2), ("each i in -0", 2), ("each i in 1_0", 2), ("each i in 1,2", 2), ("each i in 0  1", 2),
            ("each i in 0 -1", 2), ("each i in 12345678901234567890", None), ("each i in all in all", 2), ("each i in or", 2),
        ):
            self.check(f"program c[]\n{told}", line)

    def test_cases(self):
        for told, line in (
            ("when always", 4), ("when always\n  block", None), ("when", 3), ("when ", 3), ("when 0", 4), ("when all\n  block", 3),
            ("when none\n  block", 3), ("when always 0\n  block", 3), ("when 0 always\n  block", 3), ("when 0 or 1\n  block", 3),
            ("when -1\n  block", 3), ("when +1\n  block", 3), ("when 01\n  block", 3), ("when 0  1\n  block", 3),
            ("when always\nblock", 4), ("when always\n block", 4), ("when always\n    block", 4), ("when always\n  block\n  block", 5),
            ("when always\n  block\nwhen 1\n  add 1", None), ("when always\n  block\nblock", 5), ("when 5 5 3\n  block", None),
            ("when always\n  block\n  when 1\n    add 1", 5), (" when always\n  block", 3), ("  when always\n    block", 3),
            ("when always\nwhen always\n  block", 4), ("when always\n  each k in none\n  when 1\n    block\nwhen 2\n  block", None),
            ("when always\n  each k in none\n  when 1\nwhen 2\n  block", 6), ("when always\n  block\n\n", 5),
            ("when always\n  add 1\n    add 1", 5), ("whenever\n  block", 3), ("when always\n  ", 4),
            ("when always\n  block\n    each k in all\n    when always\n      block\n  when always\n    block", 8),
            ("when always\n  block\n    each k in all\n    add 1\n    when always\n      block", 7),
        ):
            self.check(f"program c[]\neach i in all\n{told}", line)

    def test_a_case_that_belongs_to_an_outer_loop(self):
        start = "program c[]\neach i in all\nwhen 0\n  each k in all\n  when 1\n    each l in none\n"
        for told, line in (
            ("when 2\n  block", None), ("  when 2\n    block", None), ("    when 2\n      block", None), ("      when 2", 7),
            ("when 2\n    block", 8), ("  when 2\n      block", 8), ("    block", 7), ("  block", 7), ("block", 7),
            ("when 2\n  block\n  when 2\n    block", 9), ("when 2\n  each k in 0\n  when 2\n    block", None),
        ):
            self.check(start + told, line)

    def test_changes_at_each_place(self):
        texts = [EXAMPLE, "program c[i]\nuse a[] -\nblock\n  each i in 0 1 or all\n  when 1\n    add -3\n  add a[]"]
        for text in texts:
            for wrong in changed_texts(text, " \n0,a-]"):
                self.assertEqual(refused_line(wrong), first_wrong_line(wrong), wrong)

    def check_changes(self, changed):
        """Check many texts that are changed line by line or word by word."""
        for program in some_programs():
            for wrong in changed(program_text(program)):
                self.assertEqual(refused_line(wrong), first_wrong_line(wrong), wrong)

    def test_changed_lines(self):
        def changed(text):
            lines = text.split("\n")
            for at, line in enumerate(lines):
                for others in (
                    [], [line, line], ["", line], [" " + line], ["  " + line], ["    " + line], [line[1:]], [line[2:]],
                    [line, "block"], [line, "  " + line], ["block", line], [line, "when always"], [line[4:]],
                ):
                    yield "\n".join(lines[:at] + others + lines[at + 1:])
                yield "\n".join(lines[:at] + lines[at + 1:at + 2] + [line] + lines[at + 2:])
                yield "\n".join(lines[:at] + [" " * 2 + behind for behind in lines[at:]])
                yield "\n".join(lines[:at])
            for more in ("", "\n", "  ", "block", "add 1", "when always", "  when 0\n    block", "use a[] -"):
                yield text + "\n" + more

        self.check_changes(changed)

    def test_changed_words(self):
        chance = Random(4)

        def changed(text):
            words = text.split(" ")
            for at, word in enumerate(words):
                other = chance.randrange(len(words))
                yield " ".join(words[:at] + words[at + 1:])
                yield " ".join(words[:at] + [word, word] + words[at + 1:])
                yield " ".join(words[:at] + [words[other]] + words[at + 1:])
                yield " ".join(words[:at] + words[at + 1:at + 2] + [word] + words[at + 2:])

        self.check_changes(changed)


if __name__ == "__main__":
    unittest.main()
