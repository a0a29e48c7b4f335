"""[47], [48]: orders of letters, rings, and uses that are turned."""

import unittest
from itertools import combinations, permutations, product
from random import Random

from levelwalks.errors import Ring
from levelwalks.forms import Form
from levelwalks.orders import fewest_turned, fitting_order, turned
from levelwalks.programs import Use
from tests.helper import KINDS, is_deep_tuple, model_fits, shapes, use


def model_orders(uses, letters):
    """All orders that all uses fit, ascending."""
    return [order for order in permutations(sorted(letters)) if all(model_fits(each_use, list(order)) for each_use in uses)]


def level_letters(each_use):
    return [each_use.letters[axis] for axis in each_use.form.axes]


def random_uses(chance, letters, many, kinds=KINDS):
    found = []
    for number_of in range(many):
        rank = min(chance.choice([0, 1, 2, 2, 3, 3, 3]), len(letters))
        form = Form(*[chance.choice(kinds) for level in range(rank)], axes=chance.sample(range(rank), rank))
        found.append(Use(chance.choice("abd"), chance.sample(letters, rank), form))
    return found


def some_uses(many=400):
    """Pairs of uses and letters."""
    chance = Random(6)
    for attempt in range(many):
        letters = "".join(chance.sample("aikz" if attempt % 2 else "ijk", 4 if attempt % 2 else 3))
        kinds = ("packed", "packed", "packed", "dense") if attempt % 3 else KINDS
        yield random_uses(chance, letters, chance.randint(0, 5), kinds), letters


class OrderCase(unittest.TestCase):
    def check_ring(self, steps, uses, numbers):
        """Check a ring by the words of the document."""
        self.assertTrue(isinstance(steps, tuple) and is_deep_tuple(steps))
        self.assertGreater(len(steps), 0)
        for at, (upper, number_of, letter) in enumerate(steps):
            self.assertIn(number_of, numbers)
            letters, kinds = level_letters(uses[number_of]), uses[number_of].form.kinds
            level = letters.index(letter)
            self.assertEqual(kinds[level], "packed")
            self.assertIn(upper, letters[:level])
            self.assertEqual(letter, steps[(at + 1) % len(steps)][0])
        self.assertEqual(len({letter for upper, number_of, letter in steps}), len(steps))


class FittingOrderTest(OrderCase):
    def check(self, uses, letters):
        orders = model_orders(uses, letters)
        for given in (tuple(letters), list(letters), list(letters)[::-1], sorted(letters)):
            before = (list(given), list(uses))
            for passed in (list(uses), tuple(uses)):
                if orders:
                    self.assertEqual(fitting_order(passed, given), orders[0])
                    self.assertIs(type(fitting_order(letters=given, uses=passed)), tuple)
                    continue
                with self.assertRaises(Ring) as caught:
                    fitting_order(passed, given)
                self.check_ring(caught.exception.steps, uses, range(len(uses)))
            self.assertEqual((list(given), list(uses)), before)
        return bool(orders)

    def test_without_uses(self):
        for letters in ("", "i", "ki", "zabk"):
            self.assertEqual(fitting_order((), tuple(letters)), tuple(sorted(letters)))
            self.assertTrue(self.check([], letters))

    def test_without_packed_levels(self):
        uses = [use("a", "zi", "dense 0, bits 1"), use("b", "zka", "hashed 2, dense 0, bits 1"), use("s", "")]
        self.assertEqual(fitting_order(uses, ("z", "k", "i", "a")), ("a", "i", "k", "z"))
        self.assertEqual(fitting_order([use("a", "zi", "packed 0, dense 1")], ("z", "i")), ("i", "z"))

    def test_with_packed_levels(self):
        for uses, letters, order in (
            ([use("a", "zi", "dense 0, packed 1")], "iz", "zi"), ([use("a", "zi", "packed 1, packed 0")], "iz", "iz"),
            ([use("a", "zi", "bits 0, packed 1")], "akiz", "akzi"), ([use("a", "ki", "dense 0, packed 1")], "ijk", "jki"),
            ([use("a", "ba", "dense 0, packed 1"), use("b", "cb", "dense 0, packed 1")], "abc", "cba"),
            ([use("a", "ca", "dense 0, packed 1"), use("b", "cb", "dense 0, packed 1")], "abc", "cab"),
            ([use("t", "kji", "bits 0, bits 1, packed 2")], "ijk", "jki"), ([use("t", "kij", "bits 0, packed 1, dense 2")], "ijk", "jki"),
            ([use("t", "kij", "packed 0, dense 1, packed 2")], "ijk", "ikj"), ([use("s", ""), use("b", "i", "packed 0")], "ik", "ik"),
        ):
            self.assertEqual(fitting_order(uses, tuple(letters)), tuple(order))
            self.assertTrue(self.check(uses, letters))

    def test_rings(self):
        for uses, letters, length in (
            ([use("a", "ik", "dense 0, packed 1"), use("b", "ki", "dense 0, packed 1")], "ik", 2),
            ([use("a", "ik", "dense 0, packed 1"), use("a", "ik", "dense 1, packed 0")], "zik", 2),
            ([use("a", "ab", "dense 0, packed 1"), use("a", "bc", "dense 0, packed 1"), use("a", "ca", "bits 0, packed 1")], "abc", 3),
            ([use("a", letters, "hashed 0, packed 1") for letters in ("ab", "bc", "cd", "da")], "abcd", 4),
            ([use("s", ""), use("b", "a", "packed 0"), use("a", "bc", "dense 0, packed 1"), use("a", "cb", "packed 0, packed 1")], "abc", 2),
        ):
            self.assertFalse(self.check(uses, letters))
            with self.assertRaises(Ring) as caught:
                fitting_order(uses, list(letters))
            self.assertEqual(len(caught.exception.steps), length)

    def test_the_steps_of_a_ring(self):
        uses = [use("s", ""), use("a", "ik", "dense 0, packed 1"), use("b", "ki", "dense 0, packed 1")]
        with self.assertRaises(Ring) as caught:
            fitting_order(uses, ("i", "k"))
        self.assertIn(caught.exception.steps, ((("i", 1, "k"), ("k", 2, "i")), (("k", 2, "i"), ("i", 1, "k"))))

    def test_many_uses(self):
        fitting = [self.check(uses, letters) for uses, letters in some_uses()]
        self.assertGreater(min(fitting.count(True), fitting.count(False)), 60)


class TurnedTest(OrderCase):
    def test_every_use(self):
        for rank in range(4):
            for (kinds, axes), order in product(shapes(rank), permutations("ijkz")):
                letters = ("k", "i", "z")[:rank]
                given = Use("a", letters, Form(*kinds, axes=axes))
                made = turned(given, order if rank % 2 else list(order))
                self.assertEqual((made.name, made.letters, made.form.kinds), ("a", letters, kinds))
                self.assertEqual(level_letters(made), [letter for letter in order if letter in letters])
                self.assertTrue(model_fits(made, list(order)))
                self.assertEqual(given.form.axes, axes)

    def test_told_uses(self):
        made = turned(use("a", "ik", "dense 1, packed 0"), ("i", "k"))
        self.assertIsInstance(made, Use)
        self.assertEqual(made.form.text, "dense 0, packed 1")
        self.assertEqual(turned(order=["k", "i"], use=use("a", "ik", "dense 1, packed 0")).form.text, "dense 1, packed 0")
        self.assertEqual(turned(use("t", "zka", "packed 0, bits 2, hashed 1"), ("a", "k", "z")).form.text, "packed 2, bits 1, hashed 0")
        self.assertEqual(turned(use("s", ""), ("i",)).form.text, "-")


class FewestTurnedTest(OrderCase):
    def check(self, uses, letters):
        tuples = [numbers for many in range(len(uses) + 1) for numbers in combinations(range(len(uses)), many)]

        def orders(numbers):
            return model_orders([uses[n] for n in range(len(uses)) if n not in numbers], letters)

        wanted = [numbers for numbers in tuples if orders(numbers)][0]
        for given in (letters, letters[::-1]):
            found = fewest_turned(list(uses), list(given))
            self.assertEqual((type(found), len(found)), (tuple, 3))
            numbers, order, rings = found
            self.assertTrue(is_deep_tuple(found))
            self.assertEqual(numbers, wanted)
            self.assertEqual(order, orders(numbers)[0])
            self.assertIs(type(rings), tuple)
            self.assertEqual([told for told, steps in rings], [each for each in tuples if len(each) < len(wanted)])
            for told, steps in rings:
                self.check_ring(steps, uses, [n for n in range(len(uses)) if n not in told])
        self.assertEqual(fewest_turned(letters=tuple(letters), uses=tuple(uses))[0], wanted)
        return len(wanted)

    def test_no_use_to_turn(self):
        self.assertEqual(fewest_turned((), ("k", "i")), ((), ("i", "k"), ()))
        self.assertEqual(fewest_turned([], []), ((), (), ()))
        uses = [use("a", "zi", "dense 0, packed 1"), use("b", "i", "packed 0")]
        self.assertEqual(fewest_turned(uses, ("i", "z")), ((), ("z", "i"), ()))

    def test_one_use_to_turn(self):
        a, b, d = use("a", "ik", "dense 0, packed 1"), use("b", "ki", "dense 0, packed 1"), use("d", "ki", "bits 0, packed 1")
        for uses, numbers, order in (
            ((a, b), (0,), "ki"), ((b, a), (0,), "ik"), ((a, b, d), (0,), "ki"), ((b, a, d), (1,), "ki"), ((b, d, a), (2,), "ki"),
            ((use("s", ""), b, a), (1,), "ik"),
        ):
            found = fewest_turned(uses, ("i", "k"))
            self.assertEqual(found[:2], (numbers, tuple(order)))
            self.assertEqual([told for told, steps in found[2]], [()])
            self.check(uses, "ik")

    def test_several_uses_to_turn(self):
        a, b, d = (use(name, letters, "dense 0, packed 1") for name, letters in (("a", "ik"), ("b", "ki"), ("d", "ik")))
        found = fewest_turned([a, b, d, b], ["k", "i"])
        self.assertEqual(found[:2], ((0, 2), ("k", "i")))
        self.assertEqual([told for told, steps in found[2]], [(), (0,), (1,), (2,), (3,)])
        self.assertEqual(self.check([a, b, d, b], "ik"), 2)

    def test_many_uses(self):
        found = [self.check(uses, letters) for uses, letters in some_uses()]
        self.assertGreater(min(found.count(many) for many in (0, 1, 2)), 5)


if __name__ == "__main__":
    unittest.main()
