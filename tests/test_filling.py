"""What the modules share: lists of whole numbers, and fractions brought to whole numbers."""

import itertools
import math
import unittest

from gluedtables.filling import are_counts, are_whole, common_divisor, made_whole


class FillingTest(unittest.TestCase):
    def test_lists_of_whole_numbers(self):
        for thing in ([], [0], [-3, 10 ** 70]):
            self.assertIs(are_whole(thing), True)
        for thing in (None, 0, "", "12", (), (1, 2), {}, [True], [0, False], [None], ["1"], [1.0], [[1]], [(1,)]):
            self.assertIs(are_whole(thing), False, repr(thing))

    def test_counts(self):
        self.assertIs(are_counts([], 0), True)
        self.assertIs(are_counts([0, 5], 2), True)
        for thing in ([0], [0, 5, 5], [0, -1], [0, True], (0, 5), None):
            self.assertIs(are_counts(thing, 2), False, repr(thing))

    def test_common_divisor(self):
        for one, other in itertools.product(range(30), repeat=2):
            self.assertEqual(common_divisor(one, other), math.gcd(one, other))

    def test_made_whole(self):
        self.assertEqual(made_whole([]), ([], 1))
        self.assertEqual(made_whole([(0, 1), (6, 3)]), ([0, 2], 1))
        self.assertEqual(made_whole([(1, 2), (1, 3), (0, 5)]), ([3, 2, 0], 6))
        self.assertEqual(made_whole([(2, 4), (3, 6)]), ([1, 1], 2))


if __name__ == "__main__":
    unittest.main()
