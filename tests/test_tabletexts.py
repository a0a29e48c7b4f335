"""[13] and [14]: the text of a stored table, and reading it."""

import re
import unittest
from functools import lru_cache
from itertools import product

from levelwalks.errors import BadText
from levelwalks.forms import Form
from levelwalks.storing import Stored
from levelwalks.tabletexts import read_table, table_text
from tests.helper import TABLES, changed_texts, every_shape, model_data, model_levels, shapes, text_of

EXAMPLE = "sizes 2 3\nform dense 0, packed 1\ndense\npacked 0 1 3 / 1 0 2\nvalues 5 -2 7"
LARGEST = 10 ** 60 - 1


def words_of(integers):
    return "".join(" " + str(n) for n in integers)


def model_line(level):
    """The line that a level has by the document."""
    if level[0] == "dense":
        return "dense"
    if level[0] == "hashed":
        return "hashed" + "".join("".join(" %d:%d:%d" % entry for entry in bucket) + " /" for bucket in level[1])
    return level[0] + words_of(level[1]) + " /" + words_of(level[2])


def model_lines(sizes, kinds, axes, cells):
    return [model_line(level) for level in model_levels(sizes, kinds, axes, cells)]


def model_text(sizes, kinds, axes, cells):
    """The text that a table has by the document."""
    lines = ["sizes" + words_of(sizes), "form " + text_of(kinds, axes), *model_lines(sizes, kinds, axes, cells)]
    return "\n".join([*lines, "values" + words_of(model_data(sizes, kinds, axes, cells))])


@lru_cache(maxsize=None)
def beginnings(sizes, kinds, axes):
    """What all tables of these sizes begin with: level lines; and level lines with which values are not 0."""
    found = set()
    places = list(product(*map(range, sizes)))
    for choice in product((0, 1), repeat=len(places)):
        cells = dict(zip(places, choice))
        lines = tuple(model_lines(sizes, kinds, axes, cells))
        found |= {lines[:depth] for depth in range(len(lines) + 1)}
        found.add((lines, tuple(n != 0 for n in model_data(sizes, kinds, axes, cells))))
    return found


@lru_cache(maxsize=None)
def form_lines(level_count):
    return {"form " + text_of(*shape): shape for shape in shapes(level_count)}


def values_in(line):
    """The values of a line that is written as one with values is, or None."""
    if re.fullmatch(r"values( 0| -?[1-9][0-9]*)*", line) is None:
        return None
    values = [int(word) for word in line.split(" ")[1:]]
    return values if all(abs(n) <= LARGEST for n in values) else None


def first_wrong_line(text, most_cells=9):
    """The number of the line that the document tells, None for a text of a table, or 0 for too many cells."""
    lines = text.split("\n")
    if re.fullmatch(r"sizes( [1-6]){0,3}", lines[0]) is None:
        return 1
    sizes = tuple(int(word) for word in lines[0].split(" ")[1:])
    forms = form_lines(len(sizes))
    if len(lines) < 2 or lines[1] not in forms:
        return 2
    count = 1
    for size in sizes:
        count *= size
    if count > most_cells:
        return 0
    found = beginnings(sizes, *forms[lines[1]])
    levels = tuple(lines[2:2 + len(sizes)])
    for depth in range(len(sizes)):
        if len(levels) <= depth or levels[:depth + 1] not in found:
            return 3 + depth
    if len(lines) == 2 + len(sizes):
        return 3 + len(sizes)
    values = values_in(lines[2 + len(sizes)])
    if values is None or (levels, tuple(n != 0 for n in values)) not in found:
        return 3 + len(sizes)
    return None if len(lines) == 3 + len(sizes) else 4 + len(sizes)


def refused_line(text):
    """The line that the error tells, or None if the text is read."""
    try:
        read_table(text)
    except BadText as error:
        return error.line
    return None


def stored_of(sizes, shape, cells):
    return Stored(sizes, Form(*shape[0], axes=shape[1]), cells)


class TextTest(unittest.TestCase):
    def test_the_example(self):
        table = Stored((2, 3), Form("dense", "packed"), {(0, 1): 5, (1, 0): -2, (1, 2): 7})
        self.assertEqual(table_text(table), EXAMPLE)
        self.assertEqual(table_text(stored=table), EXAMPLE)

    def test_no_axes(self):
        self.assertEqual(table_text(Stored((), Form(), {})), "sizes\nform -\nvalues 0")
        self.assertEqual(table_text(Stored((), Form(), {(): -LARGEST})), f"sizes\nform -\nvalues {-LARGEST}")

    def test_without_values(self):
        for kind, line in (
            ("packed", "packed 0 0 /"), ("bits", "bits 0 0 / 0"), ("hashed", "hashed / / / / / / / /"),
        ):
            text = table_text(Stored((3,), Form(kind), {}))
            self.assertEqual(text, f"sizes 3\nform {kind} 0\n{line}\nvalues")
        text = table_text(Stored((3,), Form("dense"), {}))
        self.assertEqual(text, "sizes 3\nform dense 0\ndense\nvalues 0 0 0")

    def test_levels_without_places_above(self):
        text = table_text(Stored((3, 2, 1), Form("hashed", "packed", "bits"), {}))
        lines = ["sizes 3 2 1", "form hashed 0, packed 1, bits 2", "hashed" + " /" * 8, "packed 0 /", "bits 0 /", "values"]
        self.assertEqual(text, "\n".join(lines))

    def test_buckets(self):
        text = table_text(Stored((2, 6), Form("dense", "hashed"), {(0, 0): 1, (0, 5): -2, (1, 0): 3, (1, 5): 4}))
        line = "hashed 0:0:0 1:5:3 / / / 1:0:2 / / 0:5:1 / / /"
        self.assertEqual(text, f"sizes 2 6\nform dense 0, hashed 1\ndense\n{line}\nvalues 1 -2 3 4")
        text = table_text(Stored((2, 6), Form("hashed", "bits", axes=(1, 0)), {(0, 0): 1, (1, 5): 4}))
        line = "hashed 0:0:0 / / / / / 0:5:1 / / /\nbits 0 1 2 / 1 2"
        self.assertEqual(text, f"sizes 2 6\nform hashed 1, bits 0\n{line}\nvalues 1 4")

    def test_every_form(self):
        for sizes, cells in TABLES:
            for shape in shapes(len(sizes))[::1 if len(sizes) < 3 else 7]:
                with self.subTest(sizes=sizes, shape=shape, cells=cells):
                    table = stored_of(sizes, shape, cells)
                    text = model_text(sizes, *shape, cells)
                    self.assertEqual(table_text(table), text)
                    self.assertEqual(table_text(table), text)
                    self.assertNotIn("  ", text)


class ReadTest(unittest.TestCase):
    def check(self, sizes, shape, cells):
        text = model_text(sizes, *shape, cells)
        with self.subTest(text):
            table = read_table(text)
            self.assertIsInstance(table, Stored)
            self.assertEqual(table.sizes, sizes)
            self.assertEqual((table.form.kinds, table.form.axes), shape)
            self.assertEqual(table.levels, model_levels(sizes, *shape, cells))
            self.assertEqual(table.data, model_data(sizes, *shape, cells))
            worths = {at: n for at, n in cells.items() if n != 0}
            self.assertEqual(dict(table.entries()), worths)
            self.assertEqual(len(table), len(worths))
            self.assertEqual(table_text(table), text)

    def test_every_form(self):
        for sizes, cells in TABLES:
            for shape in shapes(len(sizes))[::1 if len(sizes) < 3 else 11]:
                self.check(sizes, shape, cells)

    def test_every_form_of_a_small_table(self):
        for shape in every_shape():
            sizes = (2, 1, 2)[:len(shape[0])]
            for cells in ({}, {(1, 0, 0): 3, (0, 0, 1): LARGEST}, {(0, 0, 0): -LARGEST, (1, 0, 1): 1, (1, 0, 0): 2}):
                self.check(sizes, shape, {at[:len(sizes)]: n for at, n in cells.items()})

    def test_the_sizes_and_the_order_of_the_axes(self):
        for shape in shapes(3)[::29]:
            self.check((1, 6, 4), shape, {(0, 5, 3): 7, (0, 2, 3): -8, (0, 5, 0): 9})

    def test_the_example_by_keyword(self):
        table = read_table(text=EXAMPLE)
        self.assertEqual(dict(table.entries()), {(0, 1): 5, (1, 0): -2, (1, 2): 7})

    def test_a_full_table(self):
        for shape in shapes(3)[::61]:
            self.check((6, 6, 6), shape, {at: 1 for at in product(range(6), repeat=3)})


class WrongTest(unittest.TestCase):
    def check(self, text, line):
        with self.subTest(text):
            self.assertEqual(refused_line(text), line)

    def check_lines(self, head, level_lines, cases):
        """Check the texts with these first lines and one of several last lines."""
        for last, line in cases:
            self.check("\n".join([*head, *level_lines, last]), line)

    def test_ends_and_what_is_behind_them(self):
        lines = EXAMPLE.split("\n")
        for count in range(1, 5):
            self.check("\n".join(lines[:count]), count + 1)
            self.check("\n".join(lines[:count]) + "\n", count + 1)
            self.check("\n".join(lines[:count] + [""] + lines[count:]), count + 1)
        for text, line in (("", 1), ("\n", 1), ("\n" + EXAMPLE, 1), (EXAMPLE + "\n", 6), (EXAMPLE + "\n\n", 6), (" ", 1)):
            self.check(text, line)
        self.check(EXAMPLE + "\nvalues 5 -2 7", 6)
        self.check(EXAMPLE + "\n" + EXAMPLE, 6)
        self.check("sizes\nform -", 3)
        self.check("sizes\nform -\nvalues 3\n", 4)

    def test_sizes(self):
        for sizes in (
            "sizes 0", "sizes 7", "sizes 2 0", "sizes 1 1 1 1", "sizes -1", "sizes +1", "sizes 01", "sizes 1_0", "sizes 2,3",
            "sizes ", "sizes  2", "sizes 2 ", " sizes 2", "sizes\t2", "size 2", "Sizes 2", "sizes2", "2", "form -", "sizes 2 a",
            "sizes 6" + "0" * 199, "sizes 1.0",
        ):
            self.check(sizes, 1)
            self.check(sizes + "\nform dense 0\ndense\nvalues 1", 1)
        for sizes in ("sizes", "sizes 1", "sizes 6 6", "sizes 1 2 6"):
            self.check(sizes, 2)

    def test_forms(self):
        for form in (
            "form", "form ", "form -", "form dense 0", "form dense 0, dense 0", "form dense 1, dense 2", "dense 0, dense 1",
            "form dense 0, dense 1, dense 2", "form dense 0,dense 1", "form dense 0,  dense 1", "form dense 0, dense 1 ",
            "form  dense 0, dense 1", " form dense 0, dense 1", "form dense 00, dense 1", "form dense 0, sparse 1",
            "forms dense 0, dense 1", "form dense 0, dense +1", "form dense 0, dense -1", "form dense 0 dense 1", "",
        ):
            self.check("sizes 1 1\n" + form, 2)
            self.check("sizes 1 1\n" + form + "\ndense\ndense\nvalues 0", 2)
        self.check("sizes 1 1\nform hashed 1, dense 0", 3)
        self.check("sizes\nform dense 0", 2)
        self.check("sizes 1\nform -\nvalues 1", 2)

    def test_dense_lines(self):
        head = ["sizes 2", "form dense 0"]
        self.check_lines(head, [], [(line, 3) for line in ("dense 2", "dense ", " dense", "Dense", "", "packed", "values 0 0")])
        self.check_lines(head, ["dense"], [
            ("values 0 0", None), ("values -1 0", None), ("values 0", 4), ("values 0 0 0", 4), ("values", 4), ("values 0 0 ", 4),
            ("values -0 0", 4), ("values 00 0", 4), ("values  0 0", 4), ("values +1 0", 4), ("values 1_0 0", 4), ("value 0 0", 4),
            (f"values {LARGEST} {-LARGEST}", None), (f"values {LARGEST + 1} 0", 4), (f"values 0 {-LARGEST - 1}", 4),
            ("values 0 1" + "0" * 199, 4), (" values 0 0", 4), ("dense", 4), ("0 0", 4), ("values 0 x", 4), ("values 0 0x1", 4),
        ])

    def test_starts(self):
        head = ["sizes 2 3", "form dense 0, packed 1", "dense"]
        self.check_lines(head, [], [
            ("packed 0 1 3 / 1 0 2", 5), ("packed 0 0 0 /", 5), ("packed 0 0 3 / 0 1 2", 5), ("packed 0 3 3 / 0 1 2", 5),
            ("packed 0 1 / 1", 4), ("packed 0 1 3 3 / 1 0 2", 4), ("packed 1 1 3 / 1 0 2", 4), ("packed 0 2 1 / 1 2", 4),
            ("packed 0 1 2 / 1 0 2", 4), ("packed 0 1 4 / 1 0 2", 4), ("packed 0 1 3 1 0 2", 4), ("packed 0 1 3 / / 1 0 2", 4),
            ("packed / 0 1 3 / 1 0 2", 4), ("packed 0 1 3 /", 4), ("packed 0 4 5 / 0 1 2 3 4", 4), ("packed 0 -2 3 / 1 0 2", 4),
            ("packed 0 1 -1 / 1 0 2", 4), ("packed 00 1 3 / 1 0 2", 4), ("packed 0 1 3/ 1 0 2", 4), ("packed 0 0 0 / ", 4),
            ("packed  0 0 0 /", 4), ("packed 0 0 0", 4), ("packed", 4), ("packed /", 4), ("packed 0 1 1 / 1 1", 4),
            ("packed 0 -1 3 / 0 1 2", 4), ("packed 0 1 1" + "0" * 199 + " / 1", 4), ("bits 0 1 3 / 1 0 2", 4), ("dense", 4),
        ])

    def test_coordinates(self):
        head = ["sizes 2 3", "form dense 0, packed 1", "dense"]
        self.check_lines(head, [], [
            ("packed 0 1 3 / 1 2 0", 4), ("packed 0 1 3 / 1 0 0", 4), ("packed 0 1 3 / 1 0 3", 4), ("packed 0 1 3 / -1 0 2", 4),
            ("packed 0 1 3 / 3 0 2", 4), ("packed 0 1 3 / 1 0 02", 4), ("packed 0 1 3 / 1 0 +2", 4), ("packed 0 1 3 / 1 0 x", 4),
            ("packed 0 1 3 / 1 0  2", 4), ("packed 0 1 3 / 1 -0 2", 4), ("packed 0 2 3 / 1 0 2", 4),
            ("packed 0 1 3 / 2 0 1" + "0" * 199, 4),
        ])

    def test_masks(self):
        head = ["sizes 2 3", "form dense 0, bits 1", "dense"]
        self.check_lines(head, [], [
            ("bits 0 1 3 / 2 5", 5), ("bits 0 0 0 / 0 0", 5), ("bits 0 3 6 / 7 7", 5), ("bits 0 0 1 / 0 4", 5),
            ("bits 0 1 3 / 2 8", 4), ("bits 0 1 3 / 2 9", 4), ("bits 0 1 3 / -2 5", 4), ("bits 0 3 5 / -1 5", 4),
            ("bits 0 1 2 / 2 5", 4), ("bits 0 1 3 / 3 5", 4), ("bits 0 2 3 / 2 5", 4), ("bits 0 1 3 / 2", 4),
            ("bits 0 1 3 / 2 5 0", 4), ("bits 0 1 / 2 5", 4), ("bits 0 1 3 / 2 05", 4), ("bits 0 0 0 / 0 8", 4),
            ("bits 0 0 0 /", 4), ("bits 1 2 4 / 2 5", 4), ("bits 0 1 3 2 5", 4), ("bits 0 0 0 / -0 0", 4), ("bits", 4),
            ("bits 0 0 1 / 0 1" + "0" * 199, 4),
        ])

    def test_buckets(self):
        head = ["sizes 2 6", "form dense 0, hashed 1", "dense"]
        self.check_lines(head, [], [
            ("hashed 0:0:0 1:5:3 / / / 1:0:2 / / 0:5:1 / / /", 5), ("hashed / / / / / / / /", 5), ("hashed 0:0:0 / / / / / / / /", 5),
            ("hashed / 0:0:0 / / / / / / /", 4), ("hashed 1:5:3 0:0:0 / / / 1:0:2 / / 0:5:1 / / /", 4),
            ("hashed 0:0:0 1:5:2 / / / 1:0:3 / / 0:5:1 / / /", 4), ("hashed 0:0:1 / / / / / / / /", 4),
            ("hashed 2:2:0 / / / / / / / /", 4), ("hashed 0:8:0 / / / / / / / /", 4), ("hashed -1:3:0 / / / / / / / /", 4),
            ("hashed 1:-3:0 / / / / / / / /", 4), ("hashed 0:0:-1 / / / / / / / /", 4), ("hashed / / / / / / /", 4),
            ("hashed / / / / / / / / /", 4), ("hashed", 4), ("hashed ", 4), ("hashed 0:0 / / / / / / / /", 4),
            ("hashed 0:0:0:0 / / / / / / / /", 4), ("hashed 0:0:0 0:0:0 / / / / / / / /", 4),
            ("hashed 0:0:0 0:0:1 / / / / / / / /", 4), ("hashed 0:00:0 / / / / / / / /", 4), ("hashed 0:0: / / / / / / / /", 4),
            ("hashed 0:0:0 / / / / / / / / 0:1:1", 4), ("hashed 0:0:0/ / / / / / / /", 4), ("hashed 0 0 0 / / / / / / / /", 4),
            ("hashed 0: 0:0 / / / / / / / /", 4), ("hashed ::: / / / / / / / /", 4), ("hashed 0:0:x / / / / / / / /", 4),
            ("hashed 0:6:1 0:0:0 / / / / / / / /", 4), ("hashed 0:0:0 1:5:2 / / / / / / / /", 4),
        ])

    def test_places_that_must_lead_to_a_value(self):
        head = ["sizes 2 2", "form packed 0, packed 1", "packed 0 2 / 0 1"]
        self.check_lines(head, [], [
            ("packed 0 1 2 / 0 0", 5), ("packed 0 0 1 / 0", 4), ("packed 0 1 1 / 1", 4), ("packed 0 0 0 /", 4), ("packed 0 /", 4),
        ])
        head = ["sizes 2 2", "form bits 0, bits 1", "bits 0 2 / 3"]
        self.check_lines(head, [], [("bits 0 1 2 / 1 2", 5), ("bits 0 0 1 / 0 1", 4), ("bits 0 1 1 / 1 0", 4)])
        head = ["sizes 2 2", "form hashed 0, hashed 1", "hashed 0:0:0 / 0:1:1 / / / / / / /"]
        self.check_lines(head, [], [
            ("hashed 0:0:0 / / / 1:0:1 / / / / /", 5), ("hashed 0:0:0 / / / / / / / /", 4), ("hashed / / / / / / / /", 4),
        ])

    def test_dense_levels_between(self):
        head = ["sizes 2 2 2", "form packed 0, dense 1, bits 2", "packed 0 2 / 0 1", "dense"]
        self.check_lines(head, [], [
            ("bits 0 1 1 2 2 / 1 0 1 0", 6), ("bits 0 0 1 1 2 / 0 1 0 2", 6), ("bits 0 1 2 2 2 / 1 1 0 0", 5),
            ("bits 0 0 0 1 1 / 0 0 1 0", 5), ("bits 0 0 0 0 0 / 0 0 0 0", 5),
        ])
        head = ["sizes 2 2 2", "form packed 0, dense 1, dense 2", "packed 0 2 / 0 1", "dense", "dense"]
        self.check_lines(head, [], [
            ("values 0 0 0 1 1 0 0 0", None), ("values 1 1 1 1 0 0 0 0", 6), ("values 0 0 0 0 1 1 1 1", 6),
            ("values 0 0 0 0 0 0 0 0", 6), ("values 0 5 0 0 0 0 -5 0", None),
        ])
        head = ["sizes 2 2 2", "form dense 0, dense 1, packed 2", "dense", "dense"]
        self.check_lines(head, [], [("packed 0 0 0 0 0 /", 6), ("packed 0 0 0 1 1 / 0", 6)])

    def test_values_below_levels_that_are_not_dense(self):
        head = ["sizes 2 2", "form dense 0, packed 1", "dense", "packed 0 1 2 / 0 1"]
        self.check_lines(head, [], [
            ("values 1 2", None), ("values 0 2", 5), ("values 1 0", 5), ("values 1", 5), ("values 1 2 3", 5), ("values", 5),
        ])
        head = ["sizes 2 2", "form packed 0, dense 1", "packed 0 2 / 0 1", "dense"]
        self.check_lines(head, [], [
            ("values 1 0 0 2", None), ("values 1 2 0 0", 5), ("values 0 0 1 2", 5), ("values 1 2 3", 5), ("values 0 0 0 0", 5),
        ])
        self.check("sizes 2 2\nform packed 0, dense 1\npacked 0 0 /\ndense\nvalues", None)
        self.check("sizes 2 2\nform packed 0, dense 1\npacked 0 0 /\ndense\nvalues 0", 5)
        self.check("sizes 2 2\nform dense 0, dense 1\ndense\ndense\nvalues 0 0 0 0", None)


class ChangesTest(unittest.TestCase):
    def check(self, text):
        expected = first_wrong_line(text)
        if expected != 0:
            self.assertEqual(refused_line(text), expected, text)

    def texts(self, sizes, step, cells):
        return [model_text(sizes, *shape, cells) for shape in shapes(len(sizes))[::step]]

    def some_texts(self):
        found = [EXAMPLE, *self.texts((), 1, {(): 4}), *self.texts((3,), 1, {(0,): 7, (2,): -1})]
        found += self.texts((2, 2), 5, {(0, 1): 3, (1, 0): 12, (1, 1): -5})
        return found + self.texts((2, 2, 2), 67, {(0, 1, 0): 3, (1, 0, 0): 1, (1, 0, 1): -5, (1, 1, 1): 6})

    def test_signs(self):
        for text in self.some_texts():
            for wrong in changed_texts(text, " -0127:/\n"):
                self.check(wrong)

    def test_words(self):
        for text in self.some_texts():
            words = text.replace("\n", " \n ").split(" ")
            for at in range(len(words)):
                for new in ([], words[at:at + 1] * 2, ["/"], ["0"], ["1"], ["2"], ["3"], ["-1"], ["4"], ["7"], ["dense"]):
                    self.check(" ".join(words[:at] + new + words[at + 1:]).replace(" \n ", "\n"))
                for other in range(at):
                    changed = list(words)
                    changed[at], changed[other] = words[other], words[at]
                    self.check(" ".join(changed).replace(" \n ", "\n"))

    def test_lines(self):
        texts = self.some_texts()
        for text, other in zip(texts, texts[1:] + texts[:1]):
            lines = text.split("\n")
            for at in range(len(lines) + 1):
                for new in ([], lines[at:at + 1] * 2, [""], [" "], *[[line] for line in lines + other.split("\n")]):
                    self.check("\n".join(lines[:at] + new + lines[at + 1:]))
                    self.check("\n".join(lines[:at] + new + lines[at:]))

    def test_lines_of_other_tables_of_the_same_form(self):
        choices = list(product((0, 1), repeat=4))
        for shape in shapes(2):
            texts = [model_text((2, 2), *shape, dict(zip(product((0, 1), repeat=2), choice))) for choice in choices]
            lines = [text.split("\n") for text in texts]
            for first in lines:
                for second in lines:
                    self.check("\n".join(first[:3] + second[3:]))
                    self.check("\n".join(first[:4] + second[4:]))

    def test_values_0(self):
        for shape in shapes(3)[::37]:
            text = model_text((2, 2, 2), *shape, {(0, 1, 0): 3, (1, 0, 0): 1, (1, 0, 1): -5})
            head, values = text.rsplit("\n", 1)
            words = values.split(" ")
            for choice in product((0, 1), repeat=len(words) - 1):
                self.check(head + "\nvalues" + words_of(choice))

    def test_the_oracle_knows_right_texts(self):
        for text in self.some_texts():
            self.assertIsNone(first_wrong_line(text))


if __name__ == "__main__":
    unittest.main()
