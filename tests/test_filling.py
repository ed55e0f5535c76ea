"""What the modules share: lists of whole numbers, fractions brought to whole numbers, and rows filled at best."""

import copy
import itertools
import math
import random
import unittest

from gluedtables.filling import are_counts, are_whole, common_divisor, filled, lowest_terms, made_whole


class FillingTest(unittest.TestCase):
    def test_lists_of_whole_numbers(self):
        for thing in ([], [0], [-3, 10 ** 70]):
            self.assertIs(are_whole(thing), True)
        for thing in (None, 0, "", "12", (), (1, 2), {}, [True], [0, False], [None], ["1"], [1.0], [[1]], [(1,)]):
            self.assertIs(are_whole(thing), False, repr(thing))

    def test_counts(self):
        self.assertIs(are_counts([], 0), True)
        self.assertIs(are_counts([0, 5], 2), True)
        for thing in ([0], [0, 5, 5], [0, -1], [0, True], (0, 5), None):
            self.assertIs(are_counts(thing, 2), False, repr(thing))

    def test_common_divisor(self):
        for one, other in itertools.product(range(30), repeat=2):
            self.assertEqual(common_divisor(one, other), math.gcd(one, other))

    def test_lowest_terms(self):
        self.assertEqual(lowest_terms(0, 7), (0, 1))
        self.assertEqual(lowest_terms(7, 7), (1, 1))
        self.assertEqual(lowest_terms(12, 18), (2, 3))
        self.assertEqual(lowest_terms(5, 9), (5, 9))

    def test_made_whole(self):
        self.assertEqual(made_whole([]), ([], 1))
        self.assertEqual(made_whole([(0, 1), (6, 3)]), ([0, 2], 1))
        self.assertEqual(made_whole([(1, 2), (1, 3), (0, 5)]), ([3, 2, 0], 6))
        self.assertEqual(made_whole([(2, 4), (3, 6)]), ([1, 1], 2))


class FilledTest(unittest.TestCase):
    def check(self, rows, limits, weights):
        """Walks what is told: fillings within the limits, prices that reach the weights, and the same sum."""
        kept = copy.deepcopy((rows, limits, weights))
        numbers, times, prices, scale = filled(rows, limits, weights)
        self.assertEqual((rows, limits, weights), kept)
        self.assertEqual([len(numbers), len(prices)], [len(weights), len(rows)])
        self.assertTrue(times >= 1 and scale >= 1 and min(numbers) >= 0 and min(prices) >= 0)
        self.assertEqual([math.gcd(times, *numbers), math.gcd(scale, *prices)], [1, 1])
        for row, limit in zip(rows, limits):
            self.assertLessEqual(sum(a * b for a, b in zip(row, numbers)), limit * times)
        for column, weight in enumerate(weights):
            self.assertGreaterEqual(sum(row[column] * price for row, price in zip(rows, prices)), weight * scale)
        total = sum(a * b for a, b in zip(weights, numbers))
        self.assertEqual(total * scale, sum(a * b for a, b in zip(limits, prices)) * times)
        return total, times

    def test_by_hand(self):
        self.assertEqual(filled([[1]], [5], [1]), ([5], 1, [1], 1))
        self.assertEqual(filled([[3]], [5], [2]), ([5], 3, [2], 3))
        self.assertEqual(filled([[1]], [5], [0]), ([0], 1, [0], 1))
        self.assertEqual(filled([[1]], [5], [-4]), ([0], 1, [0], 1))
        self.assertEqual(filled([[1]], [0], [1]), ([0], 1, [1], 1))
        self.assertEqual(filled([[1, 1]], [6], [1, 2]), ([0, 6], 1, [2], 1))
        triangle = [[1, 1, 0], [0, 1, 1], [1, 0, 1]]
        self.assertEqual(filled(triangle, [1, 1, 1], [1, 1, 1]), ([1, 1, 1], 2, [1, 1, 1], 2))

    def test_limits_of_0(self):
        # Chvatal's and Beale's examples, in whole numbers: the first exchanges change no filling.
        rows = [[1, -11, -5, 18], [1, -3, -1, 2], [1, 0, 0, 0]]
        self.assertEqual(self.check(rows, [0, 0, 1], [10, -57, -9, -24]), (1, 1))
        rows = [[25, -6000, -4, 900], [50, -9000, -2, 300], [0, 0, 1, 0]]
        self.assertEqual(self.check(rows, [0, 0, 1], [75, -15000, 2, -600]), (125, 25))

    def test_many(self):
        source = random.Random(1)
        for round_number in range(600):
            wide, high = source.randint(1, 8), source.randint(1, 8)
            few = source.choice(((0, 1), (0, 1, 1), (0, 0, 1, 2, 3), (-2, -1, 0, 1, 2, 3)))
            rows = [[source.choice(few) for column in range(wide)] for row in range(high)]
            # The last row holds every column.
            rows.append([1] * wide)
            limits = [source.choice((0, 0, 1, 2, 7, 10 ** 9)) for row in rows]
            self.check(rows, limits, [source.choice((-1, 0, 1, 1, 2, 5)) for column in range(wide)])


if __name__ == "__main__":
    unittest.main()
