"""[6], [9], [10], [11], [12], [3]: stored tables."""

import random
import unittest

from levelwalks.errors import BadForm, BadSizes, NoLocate, NoWalk, OutOfRange, TooLarge
from levelwalks.forms import Form
from levelwalks.storing import Stored
from tests import helper

EXAMPLE = {(0, 1): 5, (1, 0): -2, (1, 2): 7}


def stored(sizes, text, cells):
    return Stored(sizes, Form.read(text), cells)


def cases():
    """Each table in each form that belongs to it, with the parts that it was made of."""
    for sizes, cells in helper.TABLES:
        for kinds, axes in helper.shapes(len(sizes)):
            yield sizes, kinds, axes, cells, Stored(sizes, Form(*kinds, axes=axes), cells)


def all_coordinates(sizes):
    found = [()]
    for size in sizes:
        found = [at + (c,) for at in found for c in range(size)]
    return found


class SizesTest(unittest.TestCase):
    def test_sizes_from_one_to_six_of_up_to_three_axes(self):
        for sizes in ((), (1,), (6,), (1, 6), (6, 1), (2, 3), (1, 1, 1), (6, 6, 6), (4, 5, 2)):
            for passed in (sizes, list(sizes)):
                table = Stored(passed, Form(*["packed"] * len(sizes)), {})
                self.assertEqual(table.sizes, sizes)
                self.assertIs(type(table.sizes), tuple)

    def test_wrong_sizes(self):
        wrong = ((0,), (7,), (-1,), (10 ** 70,), (0, 1), (1, 0), (7, 6), (6, 7), (1, 1, 0), (1, 7, 1),
                 (-6, 1, 1), (1, 1, 1, 1), (6, 6, 6, 6), (1, 1, 1, 1, 1))
        for sizes in wrong:
            for passed in (sizes, list(sizes)):
                with self.subTest(sizes=passed), self.assertRaises(BadSizes):
                    Stored(passed, Form(*["dense"] * min(len(sizes), 3)), {})

    def test_a_form_with_another_number_of_levels(self):
        for axis_count in range(4):
            for level_count in range(4):
                if level_count != axis_count:
                    for kind in Form.KINDS:
                        with self.subTest(axis_count, levels=level_count), self.assertRaises(BadForm):
                            Stored((2,) * axis_count, Form(*[kind] * level_count), {})


class CellsTest(unittest.TestCase):
    def refused(self, error, at, sizes, cells, text):
        with self.assertRaises(error) as caught:
            stored(sizes, text, cells)
        self.assertEqual(caught.exception.at, at)
        self.assertIs(type(caught.exception.at), tuple)

    def test_sixty_digits_are_stored_and_sixty_one_are_not(self):
        largest = 10 ** 60 - 1
        for kind in Form.KINDS:
            for value in (largest, -largest):
                table = Stored((2,), Form(kind), {(1,): value})
                self.assertEqual(table[(1,)], value)
                self.assertEqual(list(table.entries()), [((1,), value)])
            for value in (10 ** 60, -(10 ** 60), 10 ** 60 + 1, -(10 ** 61), 10 ** 199):
                self.refused(TooLarge, (1,), (2,), {(1,): value}, kind + " 0")
                self.refused(TooLarge, (), (), {(): value}, "-")

    def test_keys_that_are_no_coordinates(self):
        wrong = ((), (0,), (1,), (0, 0, 0), (0, 1, 0), (-1, 0), (0, -1), (2, 0), (0, 3), (2, 3), (1, 10 ** 70),
                 (-(10 ** 70), 0))
        for text in ("dense 0, dense 1", "packed 1, hashed 0", "bits 0, packed 1"):
            for at in wrong:
                for value in (1, 0, 10 ** 60):
                    with self.subTest(at=at, value=value):
                        self.refused(OutOfRange, at, (2, 3), {at: value}, text)
                        self.refused(OutOfRange, at, (2, 3), {(0, 0): 1, at: value, (1, 2): 0}, text)
        self.refused(OutOfRange, (0,), (), {(0,): 1}, "-")
        self.refused(OutOfRange, (), (1,), {(): 0}, "bits 0")
        self.refused(OutOfRange, (6,), (6,), {(6,): 1}, "hashed 0")
        self.refused(OutOfRange, (0, 2, 0), (3, 2, 3), {(0, 2, 0): 1}, "packed 0, packed 1, packed 2")

    def test_the_least_wrong_key_is_told_in_whatever_order_they_come(self):
        large = 10 ** 60
        wrong = ((), (-1, 5), (0,), (0, -1), (0, 0, 0), (0, 3), (1,), (2, 0))
        for first in wrong:
            for second in wrong:
                if first != second:
                    least = min(first, second)
                    for cells in ({first: 1, second: 0}, {first: 0, second: large}):
                        self.refused(OutOfRange, least, (2, 3), cells, "dense 0, packed 1")
        for cells in ({(0, 1): large, (2, 0): 1}, {(2, 0): 1, (0, 1): large}):
            self.refused(TooLarge, (0, 1), (2, 3), cells, "dense 0, packed 1")
        for cells in ({(1, 1): large, (0, 3): 0}, {(0, 3): 0, (1, 1): large}):
            self.refused(OutOfRange, (0, 3), (2, 3), cells, "dense 0, packed 1")
        for cells in ({(1, 1): large, (0, 2): -large}, {(0, 2): -large, (1, 1): large}):
            self.refused(TooLarge, (0, 2), (2, 3), cells, "dense 0, packed 1")

    def test_the_keys_are_checked_in_their_own_order_not_in_that_of_the_levels(self):
        cells = {(1, 0): 10 ** 60, (0, 2): 10 ** 60}
        for text in ("packed 0, packed 1", "packed 1, packed 0", "dense 1, hashed 0"):
            self.refused(TooLarge, (0, 2), (2, 3), cells, text)

    def test_out_of_range_is_told_ahead_of_too_large_for_one_key(self):
        for value in (10 ** 60, -(10 ** 60)):
            self.refused(OutOfRange, (0, 3), (2, 3), {(0, 3): value}, "dense 0, dense 1")

    def test_the_errors_come_in_the_order_of_the_document(self):
        bad = {(9, 9): 10 ** 60}
        with self.assertRaises(BadSizes):
            Stored((0,), Form(), bad)
        with self.assertRaises(BadSizes):
            Stored((1, 1, 1, 1), Form("dense", "dense", "dense"), bad)
        with self.assertRaises(BadForm):
            Stored((1,), Form(), bad)
        with self.assertRaises(BadForm):
            Stored((1,), Form("bits", "bits"), {(0,): 10 ** 60})

    def test_what_is_passed_is_not_modified(self):
        for text in ("dense 0, packed 1", "hashed 1, bits 0"):
            sizes, cells = [2, 3], {(1, 2): 7, (0, 0): 0, (0, 1): 5}
            table = stored(sizes, text, cells)
            list(table.entries())
            table.changed([0, 0], 4)
            table.restored(Form("packed", "packed"))
            self.assertEqual(sizes, [2, 3])
            self.assertEqual(list(cells.items()), [((1, 2), 7), ((0, 0), 0), ((0, 1), 5)])

    def test_what_is_passed_may_be_changed_later(self):
        for kinds, axes in helper.shapes(2):
            form = Form(*kinds, axes=axes)
            sizes, cells = [2, 3], dict(EXAMPLE)
            table = Stored(sizes, form, cells)
            before = (table.levels, table.data)
            sizes[0] = 6
            sizes.append(1)
            cells[(0, 1)] = 99
            cells[(0, 0)] = 98
            del cells[(1, 2)]
            self.assertEqual((table.levels, table.data), before)
            self.assertEqual(table.sizes, (2, 3))
            self.assertEqual(dict(table.entries()), EXAMPLE)
            self.assertEqual((table[0, 0], table[0, 1], table[1, 2], len(table)), (0, 5, 7, 3))
            self.assertEqual(dict(table.restored(form).entries()), EXAMPLE)
            self.assertEqual(dict(table.changed((1, 2), 0).entries()), {(0, 1): 5, (1, 0): -2})


class LevelsTest(unittest.TestCase):
    def check(self, sizes, text, cells, levels, data):
        table = stored(sizes, text, cells)
        self.assertEqual(table.levels, levels)
        self.assertEqual(table.data, data)

    def test_word_for_word_without_axes(self):
        self.check((), "-", {}, (), (0,))
        self.check((), "-", {(): 0}, (), (0,))
        self.check((), "-", {(): -4}, (), (-4,))

    def test_word_for_word_with_one_axis(self):
        cells = {(4,): 9, (0,): 0, (1,): -8}
        self.check((6,), "dense 0", cells, (("dense", 6),), (0, -8, 0, 0, 9, 0))
        self.check((6,), "packed 0", cells, (("packed", (0, 2), (1, 4)),), (-8, 9))
        self.check((6,), "bits 0", cells, (("bits", (0, 2), (0b010010,)),), (-8, 9))
        buckets = ((), ((0, 1, 0),), (), (), ((0, 4, 1),), (), (), ())
        self.check((6,), "hashed 0", cells, (("hashed", buckets),), (-8, 9))

    def test_word_for_word_with_one_axis_of_the_size_one(self):
        none = ((),) * 8
        self.check((1,), "dense 0", {}, (("dense", 1),), (0,))
        self.check((1,), "packed 0", {}, (("packed", (0, 0), ()),), ())
        self.check((1,), "bits 0", {(0,): 0}, (("bits", (0, 0), (0,)),), ())
        self.check((1,), "hashed 0", {}, (("hashed", none),), ())
        self.check((1,), "bits 0", {(0,): 3}, (("bits", (0, 1), (1,)),), (3,))
        self.check((1,), "hashed 0", {(0,): 3}, (("hashed", (((0, 0, 0),),) + none[1:]),), (3,))

    def test_word_for_word_with_two_axes(self):
        self.check((2, 3), "dense 0, packed 1", EXAMPLE,
                   (("dense", 2), ("packed", (0, 1, 3), (1, 0, 2))), (5, -2, 7))
        self.check((2, 3), "dense 1, packed 0", EXAMPLE,
                   (("dense", 3), ("packed", (0, 1, 2, 3), (1, 0, 1))), (-2, 5, 7))
        self.check((2, 3), "packed 0, dense 1", EXAMPLE,
                   (("packed", (0, 2), (0, 1)), ("dense", 3)), (0, 5, 0, -2, 0, 7))
        self.check((2, 3), "bits 1, bits 0", {(0, 1): 5, (1, 1): 4, (1, 2): 7},
                   (("bits", (0, 2), (6,)), ("bits", (0, 2, 3), (3, 2))), (5, 4, 7))
        self.check((2, 3), "dense 0, bits 1", {(1, 0): 5, (1, 2): 7},
                   (("dense", 2), ("bits", (0, 0, 2), (0, 5))), (5, 7))
        self.check((2, 3), "dense 0, dense 1", {(1, 0): 5}, (("dense", 2), ("dense", 3)), (0, 0, 0, 5, 0, 0))

    def test_word_for_word_a_packed_level_below_paths_without_a_value(self):
        self.check((4, 2), "dense 0, packed 1", {(2, 1): 3},
                   (("dense", 4), ("packed", (0, 0, 0, 1, 1), (1,))), (3,))
        self.check((2, 2, 2), "dense 0, dense 1, packed 2", {(1, 0, 1): 3},
                   (("dense", 2), ("dense", 2), ("packed", (0, 0, 0, 1, 1), (1,))), (3,))
        self.check((2, 2, 2), "packed 2, dense 0, bits 1", {(1, 0, 1): 3, (1, 1, 1): 4},
                   (("packed", (0, 1), (1,)), ("dense", 2), ("bits", (0, 0, 2), (0, 3))), (3, 4))

    def test_word_for_word_the_entries_of_a_bucket_are_in_the_order_of_the_places(self):
        # (q * 3 + c) modulo 8 is 0 for (0, 0), (1, 5) and (2, 2), so bucket 0 has three entries.
        cells = {(2, 2): 30, (0, 0): 10, (1, 5): 20, (2, 3): 31, (0, 1): 11}
        buckets = (
            ((0, 0, 0), (1, 5, 2), (2, 2, 3)), ((0, 1, 1), (2, 3, 4)), (), (), (), (), (), (),
        )
        self.check((3, 6), "dense 0, hashed 1", cells, (("dense", 3), ("hashed", buckets)), (10, 11, 20, 30, 31))
        upper = (((0, 0, 0),), ((0, 1, 1),), ((0, 2, 2),), (), (), (), (), ())
        self.check((3, 6), "hashed 0, hashed 1", cells,
                   (("hashed", upper), ("hashed", buckets)), (10, 11, 20, 30, 31))

    def test_word_for_word_with_three_axes(self):
        cells = {(1, 2, 3): 5, (1, 0, 3): 6, (0, 2, 0): -7, (1, 2, 0): 8, (0, 0, 0): 0}
        self.check((2, 3, 4), "packed 2, bits 0, packed 1", cells,
                   (("packed", (0, 2), (0, 3)), ("bits", (0, 2, 3), (3, 2)), ("packed", (0, 1, 2, 4), (2, 2, 0, 2))),
                   (-7, 8, 6, 5))

    def test_every_table_in_every_form(self):
        for sizes, kinds, axes, cells, table in cases():
            with self.subTest(sizes=sizes, kinds=kinds, axes=axes, cells=cells):
                self.assertEqual(table.levels, helper.model_levels(sizes, kinds, axes, cells))
                self.assertEqual(table.data, helper.model_data(sizes, kinds, axes, cells))
                self.assertTrue(helper.is_deep_tuple(table.levels))
                self.assertTrue(helper.is_deep_tuple(table.data))
                self.assertEqual((table.sizes, table.form.kinds, table.form.axes), (sizes, kinds, axes))

    def test_many_tables_in_some_form(self):
        pick = random.Random(11)
        for number in range(400):
            sizes = tuple(pick.randint(1, 6) for axis in range(pick.randint(1, 3)))
            kinds, axes = pick.choice(helper.shapes(len(sizes)))
            places = all_coordinates(sizes)
            chosen = pick.sample(places, pick.randint(0, min(len(places), 12)))
            cells = {at: pick.randint(-3, 3) for at in chosen}
            table = Stored(sizes, Form(*kinds, axes=axes), cells)
            with self.subTest(sizes=sizes, kinds=kinds, axes=axes, cells=cells):
                self.assertEqual(table.levels, helper.model_levels(sizes, kinds, axes, cells))
                self.assertEqual(table.data, helper.model_data(sizes, kinds, axes, cells))


class WalkTest(unittest.TestCase):
    def test_word_for_word(self):
        table = stored((2, 3), "dense 0, packed 1", EXAMPLE)
        self.assertEqual(table.walk(0, 0), ((0, 0), (1, 1)))
        self.assertEqual(table.walk(1, 0), ((1, 0),))
        self.assertEqual(table.walk(1, 1), ((0, 1), (2, 2)))
        self.assertEqual([table.locate(0, 0, c) for c in range(2)], [0, 1])
        table = stored((2, 3), "bits 1, dense 0", {(0, 0): 1, (1, 2): 2})
        self.assertEqual(table.walk(0, 0), ((0, 0), (2, 1)))
        self.assertEqual(table.walk(1, 1), ((0, 2), (1, 3)))
        self.assertEqual([table.locate(0, 0, c) for c in range(3)], [0, None, 1])
        self.assertEqual([table.locate(1, 1, c) for c in range(2)], [2, 3])
        table = stored((3, 6), "packed 0, hashed 1", {(0, 0): 1, (2, 3): 2, (2, 5): 3})
        self.assertEqual(table.walk(0, 0), ((0, 0), (2, 1)))
        self.assertEqual([table.locate(1, 0, c) for c in range(6)], [0, None, None, None, None, None])
        self.assertEqual([table.locate(1, 1, c) for c in range(6)], [None, None, None, 1, None, 2])

    def test_at_each_place_and_each_coordinate_twice(self):
        for sizes, kinds, axes, cells, table in cases():
            paths = helper.level_paths(sizes, kinds, axes, cells)
            for level, (kind, axis) in enumerate(zip(kinds, axes)):
                numbers = {path: number for number, path in enumerate(paths[level + 1])}
                for place, upper in enumerate(paths[level]):
                    row = [numbers.get(upper + (c,)) for c in range(sizes[axis])]
                    pairs = tuple((c, found) for c, found in enumerate(row) if found is not None)
                    with self.subTest(sizes=sizes, kinds=kinds, axes=axes, level=level, place=place):
                        for asked in range(2):
                            self.check_walk(table, kind, level, place, pairs)
                            self.check_locate(table, kind, level, place, row)

    def check_walk(self, table, kind, level, place, pairs):
        if kind == "hashed":
            with self.assertRaises(NoWalk) as caught:
                table.walk(level, place)
            self.assertEqual(caught.exception.level, level)
        else:
            walked = table.walk(level, place)
            self.assertEqual(walked, pairs)
            self.assertTrue(helper.is_deep_tuple(walked))

    def check_locate(self, table, kind, level, place, row):
        for coordinate, found in enumerate(row):
            if kind == "packed":
                with self.assertRaises(NoLocate) as caught:
                    table.locate(level, place, coordinate)
                self.assertEqual(caught.exception.level, level)
            else:
                self.assertEqual(table.locate(level, place, coordinate), found)

    def test_by_keyword(self):
        table = stored((2, 3), "dense 0, bits 1", EXAMPLE)
        self.assertEqual(table.walk(place=1, level=1), ((0, 1), (2, 2)))
        self.assertEqual(table.locate(coordinate=2, place=1, level=1), 2)


class ValuesTest(unittest.TestCase):
    def test_the_value_at_each_coordinate_and_whether_there_is_one(self):
        for sizes, kinds, axes, cells, table in cases():
            with self.subTest(sizes=sizes, kinds=kinds, axes=axes, cells=cells):
                for at in all_coordinates(sizes):
                    self.assertEqual(table[at], cells.get(at, 0))
                    self.assertEqual(table[list(at)], cells.get(at, 0))
                    self.assertIs(at in table, cells.get(at, 0) != 0)
                    self.assertIs(list(at) in table, cells.get(at, 0) != 0)

    def test_tuples_that_are_no_coordinates(self):
        wrong = ((), (0,), (1,), (0, 0, 0), (0, 1, 0), (-1, 0), (0, -1), (-1, -1), (2, 0), (0, 3), (1, 3),
                 (0, 10 ** 70))
        for kinds, axes in helper.shapes(2):
            table = Stored((2, 3), Form(*kinds, axes=axes), EXAMPLE)
            for at in wrong:
                for passed in (at, list(at)):
                    with self.subTest(kinds=kinds, axes=axes, at=passed):
                        with self.assertRaises(OutOfRange) as caught:
                            table[passed]
                        self.assertEqual(caught.exception.at, at)
                        self.assertIs(type(caught.exception.at), tuple)
                        self.assertIs(passed in table, False)

    def test_tuples_that_are_no_coordinates_of_tables_with_other_numbers_of_axes(self):
        for sizes, wrong in (((), (0,)), ((), (0, 0)), ((2,), ()), ((2,), (2,)), ((2,), (-1,)), ((2,), (0, 0)),
                             ((2, 2, 2), (0, 0)), ((2, 2, 2), (0, 0, 2)), ((2, 2, 2), (0, 0, 0, 0))):
            everywhere = {at: 1 for at in all_coordinates(sizes)}
            for kind in Form.KINDS:
                table = Stored(sizes, Form(*[kind] * len(sizes)), everywhere)
                with self.subTest(sizes=sizes, at=wrong, kind=kind):
                    with self.assertRaises(OutOfRange) as caught:
                        table[wrong]
                    self.assertEqual(caught.exception.at, wrong)
                    self.assertIs(wrong in table, False)

    def test_a_table_without_axes(self):
        self.assertEqual(stored((), "-", {(): 12})[()], 12)
        self.assertIs(() in stored((), "-", {(): 12}), True)
        self.assertEqual(stored((), "-", {})[()], 0)
        self.assertIs(() in stored((), "-", {(): 0}), False)

    def test_the_length_is_the_number_of_values_that_are_not_zero(self):
        for sizes, kinds, axes, cells, table in cases():
            with self.subTest(sizes=sizes, kinds=kinds, axes=axes, cells=cells):
                self.assertEqual(len(table), sum(value != 0 for value in cells.values()))

    def test_entries_word_for_word(self):
        table = stored((2, 3), "packed 1, packed 0", EXAMPLE)
        self.assertEqual(list(table.entries()), [((1, 0), -2), ((0, 1), 5), ((1, 2), 7)])
        table = stored((2, 3), "dense 0, dense 1", EXAMPLE)
        self.assertEqual(list(table.entries()), [((0, 1), 5), ((1, 0), -2), ((1, 2), 7)])

    def test_entries_in_the_order_of_the_paths(self):
        for sizes, kinds, axes, cells, table in cases():
            expected = sorted(
                ((at, value) for at, value in cells.items() if value != 0),
                key=lambda pair: [pair[0][axis] for axis in axes],
            )
            with self.subTest(sizes=sizes, kinds=kinds, axes=axes, cells=cells):
                for asked in range(2):
                    pairs = list(table.entries())
                    self.assertEqual(pairs, expected)
                    self.assertTrue(all(helper.is_deep_tuple(pair) for pair in pairs))

    def test_entries_belong_to_the_caller(self):
        table = stored((2, 3), "packed 0, bits 1", EXAMPLE)
        pairs = table.entries()
        if isinstance(pairs, list):
            pairs.clear()
        self.assertEqual(list(table.entries()), [((0, 1), 5), ((1, 0), -2), ((1, 2), 7)])
        self.assertEqual((len(table), table[0, 1]), (3, 5))


class RestoredTest(unittest.TestCase):
    def test_in_each_other_form(self):
        sizes, cells = (2, 3), EXAMPLE
        for kinds, axes in helper.shapes(2):
            table = Stored(sizes, Form(*kinds, axes=axes), cells)
            for other_kinds, other_axes in helper.shapes(2):
                other = table.restored(Form(*other_kinds, axes=other_axes))
                with self.subTest(kinds=kinds, axes=axes, other_kinds=other_kinds, other_axes=other_axes):
                    self.check(other, sizes, other_kinds, other_axes, cells)
                    self.check(table, sizes, kinds, axes, cells)

    def test_each_table_from_one_form_to_each_other_one(self):
        for sizes, kinds, axes, cells, table in cases():
            back = Form(*["hashed"] * len(sizes), axes=tuple(reversed(range(len(sizes)))))
            other = table.restored(form=back)
            with self.subTest(sizes=sizes, kinds=kinds, axes=axes, cells=cells):
                self.check(other, sizes, back.kinds, back.axes, cells)
                self.check(other.restored(table.form), sizes, kinds, axes, cells)
                self.check(table, sizes, kinds, axes, cells)

    def check(self, table, sizes, kinds, axes, cells):
        self.assertIsInstance(table, Stored)
        self.assertEqual((table.sizes, table.form.kinds, table.form.axes), (sizes, kinds, axes))
        self.assertEqual(table.levels, helper.model_levels(sizes, kinds, axes, cells))
        self.assertEqual(table.data, helper.model_data(sizes, kinds, axes, cells))
        self.assertEqual(dict(table.entries()), {at: value for at, value in cells.items() if value != 0})

    def test_a_form_with_another_number_of_levels(self):
        for axis_count in range(4):
            table = Stored((2,) * axis_count, Form(*["packed"] * axis_count), {})
            for level_count in range(4):
                if level_count != axis_count:
                    with self.subTest(axis_count, levels=level_count), self.assertRaises(BadForm):
                        table.restored(Form(*["dense"] * level_count))


class ChangedTest(unittest.TestCase):
    def test_to_each_value_at_each_coordinate(self):
        for kinds, axes in helper.shapes(2):
            table = Stored((2, 3), Form(*kinds, axes=axes), EXAMPLE)
            before = (table.levels, table.data, list(table.entries()))
            for at in all_coordinates((2, 3)):
                for value in (0, 1, -7, 5, 10 ** 60 - 1, 1 - 10 ** 60):
                    cells = {**EXAMPLE, at: value}
                    with self.subTest(kinds=kinds, axes=axes, at=at, value=value):
                        for passed in (at, list(at)):
                            other = table.changed(passed, value)
                            self.assertIsInstance(other, Stored)
                            self.assertEqual(other.sizes, (2, 3))
                            self.assertEqual((other.form.kinds, other.form.axes), (kinds, axes))
                            self.assertEqual(other.levels, helper.model_levels((2, 3), kinds, axes, cells))
                            self.assertEqual(other.data, helper.model_data((2, 3), kinds, axes, cells))
                            self.assertEqual(other[at], value)
                            self.assertEqual(at in other, value != 0)
                        self.assertEqual((table.levels, table.data, list(table.entries())), before)
                        self.assertEqual(table[at], EXAMPLE.get(at, 0))

    def test_with_other_numbers_of_axes(self):
        for sizes, cells in (((), {(): 3}), ((), {}), ((6,), {(5,): 1}), ((2, 3, 4), {(1, 2, 3): 5, (0, 0, 3): 1})):
            for kinds, axes in helper.shapes(len(sizes)):
                table = Stored(sizes, Form(*kinds, axes=axes), cells)
                at = (0,) * len(sizes)
                for value in (0, 6):
                    other = table.changed(at=at, value=value)
                    expected = {**cells, at: value}
                    self.assertEqual(other.levels, helper.model_levels(sizes, kinds, axes, expected))
                    self.assertEqual(other.data, helper.model_data(sizes, kinds, axes, expected))
                    self.assertEqual(table.data, helper.model_data(sizes, kinds, axes, cells))

    def test_one_change_after_the_other(self):
        first = stored((2, 3), "hashed 1, packed 0", {})
        second = first.changed((1, 2), 4)
        third = second.changed((0, 2), 6)
        fourth = third.changed((1, 2), 0)
        self.assertEqual([dict(table.entries()) for table in (first, second, third, fourth)],
                         [{}, {(1, 2): 4}, {(1, 2): 4, (0, 2): 6}, {(0, 2): 6}])

    def refused(self, table, error, at, passed, value):
        before = (table.levels, table.data)
        with self.assertRaises(error) as caught:
            table.changed(passed, value)
        self.assertEqual(caught.exception.at, at)
        self.assertIs(type(caught.exception.at), tuple)
        self.assertEqual((table.levels, table.data), before)
        self.assertEqual(dict(table.entries()), EXAMPLE)

    def test_wrong_coordinates_and_large_values(self):
        large = 10 ** 60
        for kinds, axes in helper.shapes(2):
            table = Stored((2, 3), Form(*kinds, axes=axes), EXAMPLE)
            for at in ((), (0,), (1,), (0, 1, 0), (0, -1), (-1, 0), (2, 0), (0, 3)):
                for value in (1, 0, large, -large):
                    self.refused(table, OutOfRange, at, at, value)
                    self.refused(table, OutOfRange, at, list(at), value)
            for at in ((0, 0), (0, 1), (1, 2)):
                for value in (large, -large, 10 ** 100):
                    self.refused(table, TooLarge, at, at, value)
                    self.refused(table, TooLarge, at, list(at), value)

    def test_a_list_that_was_passed_may_be_changed_later(self):
        at = [1, 1]
        table = stored((2, 3), "packed 0, packed 1", EXAMPLE).changed(at, 8)
        self.assertEqual(at, [1, 1])
        at[0] = 0
        self.assertEqual((table[1, 1], table[0, 1]), (8, 5))


if __name__ == "__main__":
    unittest.main()
