"""[30]: counts, their sums and their order."""

import unittest
from itertools import product

from levelwalks.counts import Counts

PARTS = (0, 1, 2, 10, -1, 10 ** 30, 10 ** 30 + 1)


def parts(counts):
    return (counts.turns, counts.additions)


class CountsTest(unittest.TestCase):
    def test_making(self):
        self.assertEqual(parts(Counts()), (0, 0))
        self.assertEqual(parts(Counts(3)), (3, 0))
        self.assertEqual(parts(Counts(3, 4)), (3, 4))
        self.assertEqual(parts(Counts(turns=3)), (3, 0))
        self.assertEqual(parts(Counts(additions=4)), (0, 4))
        self.assertEqual(parts(Counts(additions=4, turns=3)), (3, 4))
        self.assertEqual(parts(Counts(3, additions=4)), (3, 4))

    def test_sums(self):
        for first in product(PARTS, repeat=2):
            for second in product(PARTS, repeat=2):
                a, b = Counts(*first), Counts(*second)
                total = a + b
                self.assertIsInstance(total, Counts)
                self.assertEqual(parts(total), (first[0] + second[0], first[1] + second[1]))
                self.assertEqual((parts(a), parts(b)), (first, second))
                self.assertIsNot(total, a)
                self.assertIsNot(total, b)

    def test_sums_in_place(self):
        for first in product(PARTS, repeat=2):
            for second in product(PARTS, repeat=2):
                a, b = Counts(*first), Counts(*second)
                total = a
                total += b
                self.assertIsInstance(total, Counts)
                self.assertEqual(parts(total), (first[0] + second[0], first[1] + second[1]))
                self.assertEqual((parts(a), parts(b)), (first, second))
                self.assertIsNot(total, a)

    def test_a_sum_with_itself(self):
        a = Counts(1, 2)
        b = a
        a += a
        self.assertEqual((parts(a), parts(b)), ((2, 4), (1, 2)))

    def test_comparisons(self):
        for first in product(PARTS, repeat=2):
            for second in product(PARTS, repeat=2):
                a, b = Counts(*first), Counts(*second)
                with self.subTest(first=first, second=second):
                    self.assertIs(a == b, first == second)
                    self.assertIs(a != b, first != second)
                    self.assertIs(a < b, first < second)
                    self.assertIs(a <= b, first <= second)
                    self.assertIs(a > b, first > second)
                    self.assertIs(a >= b, first >= second)

    def test_other_values_are_not_equal(self):
        for other in (0, (0, 0), None, "Counts", [0, 0]):
            self.assertFalse(Counts() == other)
            self.assertTrue(Counts() != other)

    def test_they_are_sorted_by_turns_and_then_by_additions(self):
        found = sorted([Counts(2, 0), Counts(1, 9), Counts(1, 3), Counts(0, 50)])
        self.assertEqual([parts(each) for each in found], [(0, 50), (1, 3), (1, 9), (2, 0)])
        self.assertEqual(parts(max(found)), (2, 0))


if __name__ == "__main__":
    unittest.main()
