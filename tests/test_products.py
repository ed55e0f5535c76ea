"""Points 2, 3, 11 and 12: glued tables, and products of trees of tables."""

import copy
import itertools
import math
import random
import unittest
from fractions import Fraction

from gluedtables.errors import NoTree, Unlike
from gluedtables.products import is_glued, product
from gluedtables.tables import family_of
from samples import (
    cut, families_over, framed, product_rows, slow_agree, slow_glued, slow_pairs, slow_sums, some_lists, some_trees,
    spoiled,
)

BIG = 10 ** 59
MOST = 10 ** 9
SMALL = family_of((2, 2), [((0,), (1, 2)), ((1,), (2, 1))])
PATH = family_of((2, 2, 3), [((0, 1), (1, 2, 3, 0)), ((1, 2), (1, 0, 3, 2, 0, 0))])
ONE = family_of((3,), [((0,), (0, 1, 4))])


def on_rows(frame, table, part):
    """The sum of a table on a part of its group, for each row of all marks."""
    rows = product_rows([frame[mark] for mark in part])
    totals = dict(zip(rows, slow_sums(frame, table, part)))
    return [totals[tuple(row[mark] for mark in part)] for row in product_rows(frame)]


def slow_product(family):
    """The product, by the words of point 12, reckoned with fractions."""
    frame, tables = family
    above = [on_rows(frame, table, table[0]) for table in tables]
    below = []
    for number, keeper in slow_pairs([group for group, counts in tables])[0]:
        part = tuple(mark for mark in tables[number][0] if mark in tables[keeper][0])
        below.append(on_rows(frame, tables[number], part))
    told = []
    for place in range(len(product_rows(frame))):
        top = math.prod(counts[place] for counts in above)
        told.append(Fraction(top, math.prod(totals[place] for totals in below)) if top else Fraction(0))
    times = math.lcm(*[fraction.denominator for fraction in told])
    return [int(fraction * times) for fraction in told], times


class GluedTest(unittest.TestCase):
    def check(self, family, table, answer):
        kept = copy.deepcopy((family, table))
        self.assertIs(is_glued(family, table), answer, (family, table))
        self.assertEqual((family, table), kept)

    def test_by_hand(self):
        for numbers in ([1, 0, 1, 1], [0, 1, 2, 0]):
            self.check(SMALL, (numbers, 1), True)
        self.check(SMALL, ([2, 1, 4, 2], 3), True)
        self.check(SMALL, ([1, 1, 3, 1], 2), True)
        self.check(ONE, ([0, 1, 4], 1), True)
        self.check(PATH, ([1, 0, 0, 2, 0, 0, 0, 0, 3, 0, 0, 0], 1), True)
        self.check(PATH, ([1, 0, 0, 0, 2, 0, 0, 0, 3, 0, 0, 0], 1), False)

    def test_some_times_over(self):
        for times in (1, 2, 3, 7, BIG, BIG * BIG * BIG):
            self.check(SMALL, ([times, 0, times, times], times), True)
            self.check(SMALL, ([times, 0, times, times], times + 1), False)
            self.check(SMALL, ([times + 1, 0, times, times], times), False)
            self.check(ONE, ([0, times, 4 * times], times), True)

    def test_other_lengths(self):
        # [0, 1, 2, 0] is glued: a nought that is left out at the end changes no sum.
        for numbers in ([], [1], [1, 0, 1], [0, 1, 2], [1, 0, 1, 1, 0], [0, 1, 0, 1, 1], [1, 0, 1, 1] * 2, [1] * 100):
            self.check(SMALL, (numbers, 1), False)
        for numbers in ([0, 1], [0, 1, 4, 0], [0, 1, 4, 0, 0, 0]):
            self.check(ONE, (numbers, 1), False)
        self.check(SMALL, ([1, 0, 1, 1],), False)
        self.check(SMALL, ([1, 0, 1, 1], 1, 1), False)

    def test_a_number_below_0(self):
        self.check(SMALL, ([2, -1, 0, 2], 1), False)
        self.check(SMALL, ([-1, 2, 3, -1], 1), False)
        self.check(SMALL, ([2 + BIG, -1 - BIG, -BIG, 2 + BIG], 1), False)
        self.check(ONE, ([-1, 2, 4], 1), False)

    def test_times_of_0_or_below(self):
        self.check(SMALL, ([0, 0, 0, 0], 0), False)
        self.check(SMALL, ([1, 0, 1, 1], 0), False)
        self.check(SMALL, ([-1, 0, -1, -1], -1), False)
        self.check(SMALL, ([1, 0, 1, 1], -1), False)
        self.check(SMALL, ([-BIG, 0, -BIG, -BIG], -BIG), False)
        self.check(ONE, ([0, 0, 0], 0), False)

    def test_another_times(self):
        for times in (-2, -1, 0, 2, 3, 4, BIG):
            self.check(SMALL, ([1, 0, 1, 1], times), False)
            self.check(PATH, ([1, 0, 0, 2, 0, 0, 0, 0, 3, 0, 0, 0], times), False)

    def test_truths_are_no_numbers(self):
        self.check(SMALL, ([1, 0, 1, True], 1), False)
        self.check(SMALL, ([1, False, 1, 1], 1), False)
        self.check(SMALL, ([1, 0, 1, 1], True), False)

    def test_sums_that_are_unlike_on_one_group_alone(self):
        numbers = [2, 1, 0, 3, 1, 1, 4, 2]
        groups = [(0, 1), (1, 2), (0,), (2,), (0, 2)]
        tables = [cut((2, 2, 2), group, numbers) for group in groups]
        self.check(family_of((2, 2, 2), tables), (numbers, 1), True)
        for at, (group, counts) in enumerate(tables):
            for one, other in itertools.permutations(range(len(counts)), 2):
                if counts[one] > 0:
                    moved = list(counts)
                    moved[one] -= 1
                    moved[other] += 1
                    spoilt = tables[:at] + [(group, tuple(moved))] + tables[at + 1:]
                    self.check(family_of((2, 2, 2), spoilt), (numbers, 1), False)

    def test_all_small_numbers(self):
        families = [SMALL, family_of((2, 2), [((0, 1), (0, 2, 1, 0)), ((1,), (1, 2))])]
        families.append(family_of((2, 2), [((0,), (1, 2)), ((1,), (2, 1)), ((1,), (1, 2))]))
        answers = []
        for family in families:
            for numbers in itertools.product(range(-1, 4), repeat=4):
                for times in (-1, 0, 1, 2):
                    answers.append(slow_glued(family, numbers, times))
                    self.assertIs(is_glued(family, (list(numbers), times)), answers[-1], (family, numbers, times))
        self.assertEqual(answers.count(True), 5)

    def test_one_number_changed(self):
        for family in families_over(some_trees(30, 21), 22):
            numbers, times = slow_product(family)
            self.check(family, (numbers, times), True)
            for place in range(len(numbers)):
                for more in (-1, 1, times):
                    other = list(numbers)
                    other[place] += more
                    self.check(family, (other, times), False)

    def test_tables_over_no_tree(self):
        source = random.Random(23)
        for frame, groups in framed(some_lists(200, 24), source):
            numbers = [source.randrange(5) for row in product_rows(frame)]
            numbers[-1] += 1
            family = family_of(frame, [cut(frame, group, numbers) for group in groups])
            self.check(family, (numbers, 1), True)
            self.check(family, ([5 * number for number in numbers], 5), True)
            mixed = source.sample(numbers, len(numbers))
            self.check(family, (mixed, 1), slow_glued(family, mixed, 1))


class ProductTest(unittest.TestCase):
    def check(self, family):
        """Looks at a product by itself, and gives it."""
        kept = copy.deepcopy(family)
        told = product(family)
        self.assertEqual(family, kept)
        self.assertEqual([type(told), type(told[0]), type(told[1])], [tuple, list, int])
        self.assertEqual({type(number) for number in told[0]}, {int})
        self.assertEqual(told, slow_product(family), family)
        self.assertEqual(math.gcd(told[1], *told[0]), 1)
        self.assertTrue(slow_glued(family, *told), family)
        self.assertIs(is_glued(family, told), True, family)
        return told

    def test_by_hand(self):
        self.assertEqual(product(SMALL), ([2, 1, 4, 2], 3))
        self.assertEqual(product(PATH), ([1, 0, 3, 8, 0, 0, 3, 0, 9, 0, 0, 0], 4))
        self.assertEqual(product(ONE), ([0, 1, 4], 1))
        three = family_of((2, 2, 2), [((0,), (1, 1)), ((1,), (1, 1)), ((2,), (2, 0))])
        self.assertEqual(product(three), ([1, 0] * 4, 2))
        path = family_of((2, 2, 2), [((0, 1), (2, 1, 0, 3)), ((1, 2), (1, 1, 2, 2))])
        self.assertEqual(product(path), ([2, 2, 1, 1, 0, 0, 3, 3], 2))

    def test_one_table_is_its_own_product(self):
        for frame in ((2,), (3,), (2, 3), (3, 3, 2), (2, 2, 2, 3)):
            rows = len(product_rows(frame))
            counts = tuple((k * 7) % 5 for k in range(1, rows + 1))
            family = family_of(frame, [(tuple(range(len(frame))), counts)])
            self.assertEqual(product(family), (list(counts), 1))

    def test_alike(self):
        table = ((0, 1), (3, 0, 2, 0, 1, 5))
        for many in range(1, 9):
            self.assertEqual(product(family_of((2, 3), [table] * many)), ([3, 0, 2, 0, 1, 5], 1))

    def test_within_one_another(self):
        tables = [((0, 1), (3, 0, 2, 0, 1, 5)), ((0,), (5, 6)), ((1,), (3, 1, 7))]
        for order in itertools.permutations(tables):
            self.assertEqual(product(family_of((2, 3), list(order))), ([3, 0, 2, 0, 1, 5], 1))

    def test_without_marks_in_common(self):
        family = family_of((2, 3), [((0,), (2, 4)), ((1,), (3, 0, 3))])
        self.assertEqual(self.check(family), ([1, 0, 1, 2, 0, 2], 1))
        family = family_of((2, 3), [((1,), (5, 0, 1)), ((0,), (0, 6))])
        self.assertEqual(self.check(family), ([0, 0, 0, 5, 0, 1], 1))
        family = family_of((2,) * 6, [((k,), (1, 6)) for k in range(6)])
        self.assertEqual(self.check(family)[1], 7 ** 5)

    def test_noughts_that_would_divide(self):
        family = family_of((2, 2, 2), [((0, 1), (0, 3, 0, 2)), ((1, 2), (0, 0, 4, 1))])
        self.assertEqual(self.check(family), ([0, 0, 12, 3, 0, 0, 8, 2], 5))

    def test_trees_of_one_to_eight_tables(self):
        sizes = []
        noughts = 0
        for family in families_over(some_trees(400, 25), 26):
            self.check(family)
            sizes.append(len(family[1]))
            noughts += any(0 in counts for group, counts in family[1])
        for size in range(1, 9):
            self.assertGreater(sizes.count(size), 9, size)
        self.assertGreater(noughts, 50)
        self.assertGreater(len(sizes) - noughts, 50)

    def test_least_times_above_1(self):
        times = [product(family)[1] for family in families_over(some_trees(200, 27), 28)]
        self.assertGreater(times.count(1), 20)
        self.assertGreater(len(times) - times.count(1), 20)

    def test_great_counts(self):
        one, other = (MOST - 10, 10), (MOST // 3, MOST - MOST // 3)
        told = self.check(family_of((2, 2), [((0,), one), ((1,), other)]))
        self.assertGreater(max(told[0]), MOST)
        tables = [((k,), (MOST - k - 1, k + 1)) for k in range(6)]
        told = self.check(family_of((2,) * 6, tables))
        self.assertGreater(told[1], MOST)
        self.check(family_of((2,) * 6, tables + [((0, 5), (MOST - 7, 6, 1, 0)), ((5,), (MOST - 6, 6))]))

    def test_tables_in_another_order(self):
        source = random.Random(29)
        for family in families_over(some_trees(200, 30), 31):
            told = self.check(family)
            for round_number in range(3):
                mixed = source.sample(family[1], len(family[1]))
                self.assertEqual(product(family_of(family[0], mixed)), told)

    def test_each_order_of_a_few_tables(self):
        numbers = [1, 0, 2, 3, 0, 5, 1, 1, 2, 0, 0, 4, 1, 3, 2, 0]
        groups = [(0, 1), (1, 2), (1, 3), (1,), (1, 2)]
        tables = [cut((2,) * 4, group, numbers) for group in groups]
        told = self.check(family_of((2,) * 4, tables))
        for order in itertools.permutations(tables):
            self.assertEqual(product(family_of((2,) * 4, list(order))), told)

    def test_no_tree(self):
        rings = [[(0, 1), (1, 2), (2, 3), (0, 3)], [(0, 1), (1, 2), (2, 3), (3, 4), (4, 5), (0, 5)]]
        knots = [[(0, 1), (1, 2), (0, 2)], [(0, 1, 2), (0, 1, 3), (0, 2, 3), (1, 2, 3)]]
        for groups in rings + knots + [rings[0] + [(0,), (4, 5)]]:
            frame = (2,) * (max(max(group) for group in groups) + 1)
            numbers = [k % 3 for k in range(len(product_rows(frame)))]
            family = family_of(frame, [cut(frame, group, numbers) for group in groups])
            with self.assertRaises(NoTree):
                product(family)
            source = random.Random(32)
            for round_number in range(10):
                with self.assertRaises(NoTree):
                    product(spoiled(family, source))

    def test_no_tree_among_many(self):
        source = random.Random(33)
        told = []
        for family in families_over(some_lists(400, 34), 35):
            tree = slow_pairs([group for group, counts in family[1]])[1] == 1
            other = spoiled(family, source)
            told.append((tree, slow_agree(other) is None))
            if tree:
                self.check(family)
            else:
                for each in (family, other):
                    with self.assertRaises(NoTree, msg=repr(each)):
                        product(each)
        for tree in (True, False):
            self.assertGreater(told.count((tree, False)), 20)

    def test_unlike_by_hand(self):
        tables = [((0, 1), (1, 2, 3, 0)), ((1, 2), (1, 0, 3, 2, 0, 0)), ((2,), (3, 1, 2))]
        with self.assertRaises(Unlike) as caught:
            product(family_of((2, 2, 3), tables))
        error = caught.exception
        self.assertEqual((error.first, error.second, error.row), (1, 2, (1,)))
        self.assertIs(type(error.row), tuple)

    def test_unlike_among_many(self):
        source = random.Random(36)
        unlike = 0
        for family in families_over(some_trees(400, 37), 38):
            for other in (spoiled(family, source), spoiled(spoiled(family, source), source)):
                found = slow_agree(other)
                if found is None:
                    self.check(other)
                    continue
                unlike += 1
                with self.assertRaises(Unlike, msg=repr(other)) as caught:
                    product(other)
                error = caught.exception
                self.assertEqual((error.first, error.second, error.row), found, other)
        self.assertGreater(unlike, 100)

    def test_what_was_told_changed_afterwards(self):
        for family in families_over(some_trees(50, 39), 40):
            told = product(family)
            kept = copy.deepcopy(told)
            told[0].reverse()
            told[0][0] = -1
            told[0].append(5)
            self.assertEqual(product(family), kept)
            self.assertIs(is_glued(family, kept), True)
            self.assertIs(is_glued(family, told), False)


if __name__ == "__main__":
    unittest.main()
