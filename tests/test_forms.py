"""[7], [8]: forms and their texts."""

import unittest

from levelwalks.errors import BadForm
from levelwalks.forms import Form
from tests.helper import KINDS, every_shape, text_of


class FormTest(unittest.TestCase):
    def check(self, form, kinds, axes):
        self.assertIsInstance(form, Form)
        self.assertIs(type(form.kinds), tuple)
        self.assertIs(type(form.axes), tuple)
        self.assertEqual((form.kinds, form.axes), (kinds, axes))

    def test_the_kinds_are_a_class_value(self):
        self.assertEqual(Form.KINDS, ("dense", "packed", "bits", "hashed"))
        self.assertIs(type(Form.KINDS), tuple)

    def test_forms_without_axes_number_them(self):
        for kinds, axes in every_shape():
            self.check(Form(*kinds), kinds, tuple(range(len(kinds))))
            self.check(Form(*kinds, axes=None), kinds, tuple(range(len(kinds))))

    def test_forms_with_axes_as_a_tuple_and_as_a_list(self):
        for kinds, axes in every_shape():
            self.check(Form(*kinds, axes=axes), kinds, axes)
            self.check(Form(*kinds, axes=list(axes)), kinds, axes)

    def test_the_form_without_levels(self):
        for form in (Form(), Form(axes=()), Form(axes=[]), Form(axes=None), Form.read("-")):
            self.check(form, (), ())
            self.assertEqual(form.text, "-")

    def test_a_kind_may_occur_at_several_levels(self):
        self.check(Form("bits", "bits", "bits", axes=(2, 0, 1)), ("bits",) * 3, (2, 0, 1))

    def test_axes_are_neither_modified_nor_kept(self):
        axes = [2, 0, 1]
        form = Form("dense", "packed", "bits", axes=axes)
        self.assertEqual(axes, [2, 0, 1])
        axes[0] = 1
        axes.append(3)
        self.check(form, ("dense", "packed", "bits"), (2, 0, 1))
        self.assertEqual(form.text, "dense 2, packed 0, bits 1")

    def test_a_fourth_kind_is_refused(self):
        for kind in KINDS:
            with self.assertRaises(BadForm):
                Form(*[kind] * 4)
            with self.assertRaises(BadForm):
                Form(*[kind] * 4, axes=(0, 1, 2, 3))
            with self.assertRaises(BadForm):
                Form(*[kind] * 4, axes=(0, 1, 2))
        with self.assertRaises(BadForm):
            Form(*KINDS, "dense")

    def test_words_that_are_no_kinds_are_refused(self):
        words = ("", "d", "Dense", "DENSE", "dense ", " dense", "dense 0", "sparse", "bit", "-",
                 "densepacked", "pack", "hash", "hashed,", "kinds")
        for word in words:
            for kinds in ((word,), ("dense", word), (word, "bits"), ("packed", "hashed", word)):
                with self.subTest(kinds=kinds), self.assertRaises(BadForm):
                    Form(*kinds)

    def test_axes_that_are_not_each_number_once_are_refused(self):
        cases = (
            (0, ((0,), (0, 1))),
            (1, ((), (1,), (-1,), (0, 0), (0, 1), (2,), (3,))),
            (2, ((), (0,), (1,), (0, 0), (1, 1), (1, 2), (0, 2), (-1, 0), (0, 1, 2), (0, 1, 1), (1, 0, 0))),
            (3, ((), (0, 1), (0, 1, 1), (0, 0, 2), (1, 2, 3), (-1, 0, 1), (0, 1, 3), (2, 2, 2),
                 (0, 1, 2, 3), (0, 1, 2, 2), (2, 1, 0, 0), (10 ** 70, 0, 1))),
        )
        for level_count, wrong in cases:
            for axes in wrong:
                for passed in (axes, list(axes)):
                    with self.subTest(level_count, axes=passed), self.assertRaises(BadForm):
                        Form(*["packed"] * level_count, axes=passed)


class FormTextTest(unittest.TestCase):
    def test_texts_word_for_word(self):
        self.assertEqual(Form("dense", "packed", axes=(1, 0)).text, "dense 1, packed 0")
        self.assertEqual(Form("hashed").text, "hashed 0")
        self.assertEqual(Form("bits", "hashed", "dense", axes=[2, 0, 1]).text, "bits 2, hashed 0, dense 1")
        self.assertEqual(Form().text, "-")

    def test_each_form_has_its_text_and_is_read_from_it(self):
        texts = set()
        for kinds, axes in every_shape():
            text = Form(*kinds, axes=axes).text
            self.assertEqual(text, text_of(kinds, axes))
            read = Form.read(text)
            self.assertIsInstance(read, Form)
            self.assertEqual((read.kinds, read.axes), (kinds, axes))
            self.assertIs(type(read.kinds), tuple)
            self.assertIs(type(read.axes), tuple)
            self.assertEqual(read.text, text)
            self.assertEqual(Form.read(text=text).text, text)
            texts.add(text)
        self.assertEqual(len(texts), 1 + 4 + 16 * 2 + 64 * 6)

    def test_texts_of_no_form_are_refused(self):
        wrong = (
            "", " ", "-\n", "- ", " -", "--", "-, -", "-, dense 0", "dense 0, -", "dense", "0", "dense 0,",
            "dense 0, ", ", dense 0", ",", ", ", "dense 1", "dense 3", "dense -1", "dense +0", "dense 00",
            "dense 0.", "dense0", "dense  0", " dense 0", "dense 0 ", "dense 0\n", "\ndense 0", "dense\n0",
            "Dense 0", "DENSE 0", "sparse 0", "0 dense", "dense a", "dense ", " 0", "dense 0 0",
            "dense 0 packed 1", "dense 0 , packed 1", "dense 0,packed 1", "dense 0,  packed 1",
            "dense 0; packed 1", "dense 0\npacked 1", "dense 0, packed 0", "dense 1, packed 1",
            "dense 1, packed 2", "dense 0, packed 2", "dense 0, dense 0", "dense 0, packed 1,",
            "dense 0, packed 1, bits 1", "dense 0, packed 1, bits 3", "dense 0, packed 1, bits",
            "dense 0, packed 1, bits 2, hashed 3", "dense 0, packed 1, bits 2, hashed 2",
            "dense 0, dense 1, dense 2, dense 3", "dense 0,, packed 1", "dense, 0", "dense:0", "(dense 0)",
            "dense 1, packed 0, ", "None", "dense 0" + "0" * 150,
        )
        for text in wrong:
            with self.subTest(text=text), self.assertRaises(BadForm):
                Form.read(text)

    def test_one_sign_put_in_taken_out_or_changed(self):
        right = {text_of(kinds, axes) for kinds, axes in every_shape()}
        samples = ("-", "dense 0", "packed 0", "dense 1, packed 0", "bits 0, hashed 1",
                   "hashed 2, bits 0, packed 1", "dense 0, dense 1, dense 2")
        signs = " ,-0123+_dpbhesn\n"
        for text in samples:
            changed = {text[:k] + text[k + 1:] for k in range(len(text))}
            changed |= {text[:k] + sign + text[k:] for k in range(len(text) + 1) for sign in signs}
            changed |= {text[:k] + sign + text[k + 1:] for k in range(len(text)) for sign in signs}
            for other in sorted(changed):
                with self.subTest(text=text, other=other):
                    if other in right:
                        self.assertEqual(Form.read(other).text, other)
                    else:
                        self.assertRaises(BadForm, Form.read, other)


if __name__ == "__main__":
    unittest.main()
