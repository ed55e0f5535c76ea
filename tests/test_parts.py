"""Points 2, 3, 13 and 14: the greatest part of a family, its prices, and its share."""

import copy
import itertools
import math
import random
import unittest
from fractions import Fraction

from gluedtables.parts import is_part, part, share
from gluedtables.tables import family_of
from samples import (
    any_families, any_family, counts_of, cut, families_over, is_form, mixed_families, product_rows, slow_rows,
    slow_worth, some_lists, some_trees, spoiled, wide_families, wide_groups,
)

BIG = 10 ** 59
SMALL = family_of((2, 2), [((0,), (1, 2)), ((1,), (2, 1))])
UNLIKE = family_of((2,), [((0,), (1, 2)), ((0,), (2, 1))])
APART = family_of((2,), [((0,), (3, 0)), ((0,), (0, 3))])
RING = [(0, 1), (1, 2), (2, 3), (0, 3)]
KNOT = [(0, 1), (1, 2), (0, 2)]
PAIRS = [(0, 1), (1, 2), (0, 2), (0, 3), (1, 3), (2, 3)]
HALVES = family_of((2,) * 4, list(zip(PAIRS, (
    (1, 1, 1, 0), (1, 1, 1, 0), (0, 1, 1, 1), (1, 0, 1, 1), (1, 2, 0, 0), (1, 0, 1, 1),
))))


def slow_part(family, told):
    """Whether a tuple is a part with prices, by the words of point 13."""
    numbers, times, prices, scale = told
    frame, tables = family
    if len(numbers) != len(product_rows(frame)) or not is_form(family, prices):
        return False
    if min(numbers) < 0 or times < 1 or min(min(each) for each in prices) < 0 or scale < 1:
        return False
    for group, counts in tables:
        if any(total > count * times for total, count in zip(cut(frame, group, numbers)[1], counts)):
            return False
    return min(slow_rows(family, prices)) >= scale and slow_worth(family, prices) * times == scale * sum(numbers)


def with_noise(groups, kept, of):
    """Two kinds side by side the same, at the last group unlike, in kept of so many cases; else any kinds."""
    same, other = of + kept, of - kept
    frame = (2,) * (max(max(group) for group in groups) + 1)
    tables = [(group, (same, other, other, same)) for group in groups[:-1]]
    return family_of(frame, [*tables, (groups[-1], (other, same, same, other))])


def times_over(told, many, more):
    """A part with prices, many times over, its prices more times over."""
    numbers, times, prices, scale = told
    higher = [[price * more for price in each] for each in prices]
    return [number * many for number in numbers], times * many, higher, scale * more


def in_between(one, other):
    """Half of one part with prices and half of another one."""
    numbers = [a * other[1] + b * one[1] for a, b in zip(one[0], other[0])]
    prices = [[a * other[3] + b * one[3] for a, b in zip(each, beside)] for each, beside in zip(one[2], other[2])]
    return numbers, 2 * one[1] * other[1], prices, 2 * one[3] * other[3]


def in_another_order(family, source):
    """A part with prices that is found with the tables in another order."""
    frame, tables = family
    order = source.sample(range(len(tables)), len(tables))
    numbers, times, prices, scale = part(family_of(frame, [tables[at] for at in order]))
    return numbers, times, [prices[order.index(at)] for at in range(len(tables))], scale


class PartTest(unittest.TestCase):
    def check(self, family):
        """Walks the part of a family, and gives its share."""
        kept = copy.deepcopy(family)
        told = part(family)
        self.assertEqual(family, kept)
        numbers, times, prices, scale = told
        self.assertEqual([type(thing) for thing in (told, *told)], [tuple, list, int, list, int])
        self.assertEqual({type(number) for number in numbers}, {int})
        self.assertEqual({type(each) for each in prices}, {list})
        self.assertTrue(slow_part(family, told), (family, told))
        self.assertIs(is_part(family, told), True, (family, told))
        self.assertEqual(family, kept)
        return Fraction(sum(numbers), times * sum(family[1][0][1]))

    def test_by_hand(self):
        self.assertEqual(self.check(SMALL), 1)
        self.assertEqual(self.check(UNLIKE), Fraction(2, 3))
        self.assertEqual(self.check(APART), 0)
        self.assertEqual(part(APART)[0], [0, 0])
        self.assertEqual(self.check(with_noise(RING, 1, 1)), 0)
        self.assertEqual(self.check(with_noise(RING, 3, 4)), Fraction(1, 2))

    def test_one_table(self):
        source = random.Random(1)
        for frame in ((2,), (3,), (2, 3), (3, 3, 2), (3, 3, 3, 2), (2, 2, 2, 2, 2)):
            size = math.prod(frame)
            for total in (1, 2, size, 10 ** 6, 10 ** 9):
                counts = counts_of(total, size, source)
                family = family_of(frame, [(tuple(range(len(frame))), counts)])
                self.assertEqual(self.check(family), 1)
                numbers, times, prices, scale = part(family)
                self.assertEqual([Fraction(number, times) for number in numbers], list(counts))

    def test_many_families(self):
        shares = []
        sizes = []
        for family in mixed_families(70, 10):
            shares.append(self.check(family))
            sizes.append(len(family[1]))
        for size in range(1, 9):
            self.assertGreater(sizes.count(size), 9, size)
        self.assertGreater(shares.count(1), 100)
        self.assertGreater(shares.count(0), 5)
        self.assertGreater(len([each for each in shares if 0 < each < 1]), 200)

    def test_cut_families_are_whole_parts(self):
        for lists in (some_trees(50, 2), some_lists(100, 3)):
            for family in families_over(lists, 4):
                self.assertEqual(self.check(family), 1)

    def test_within_one_another_and_alike(self):
        source = random.Random(5)
        groups = [(0, 1, 2), (0, 1), (0,), (0, 1, 2), (1, 2), (2,)]
        for total in (1, 5, 20, 10 ** 6):
            for family in (any_family((2, 2, 2), groups, total, source), any_family((2, 3, 2), groups, total, source)):
                self.check(family)

    def test_times_above_1(self):
        # No four rows of four marks have each two kinds of each two marks once; eight have them twice.
        self.assertEqual(self.check(family_of((2,) * 4, [(pair, (1, 1, 1, 1)) for pair in PAIRS])), 1)
        self.assertEqual(part(family_of((2,) * 4, [(pair, (1, 1, 1, 1)) for pair in PAIRS]))[1] % 2, 0)
        self.assertEqual(self.check(HALVES), Fraction(1, 2))
        self.assertEqual([part(HALVES)[1] % 2, part(HALVES)[3] % 2], [0, 0])

    def test_near_a_part_with_halves(self):
        source = random.Random(6)
        told = []
        for round_number in range(100):
            beside = any_family((2,) * 4, PAIRS, source.choice((1, 2, 30, 1000)), source)
            times = source.choice((1, 3, 25, 1001))
            tables = []
            for (group, counts), (same, others) in zip(HALVES[1], beside[1]):
                tables.append((group, [count * times + other for count, other in zip(counts, others)]))
            family = family_of((2,) * 4, tables)
            self.check(family)
            told.append(part(family))
        self.assertGreater(len([each for each in told if each[1] > 1]), 9)
        self.assertGreater(len([each for each in told if each[3] > 1]), 9)

    def test_at_the_greatest_sizes(self):
        for frame, groups in wide_groups():
            self.assertEqual(sum(math.prod(frame[mark] for mark in group) for group in groups), 60, groups)
        for family in wide_families(8):
            self.check(family)

    def test_flat_counts_at_the_greatest_sizes(self):
        for frame, groups in wide_groups():
            sizes = [math.prod(frame[mark] for mark in group) for group in groups]
            total = math.lcm(*sizes)
            flat = [(group, (total // size,) * size) for group, size in zip(groups, sizes)]
            self.assertEqual(self.check(family_of(frame, flat)), 1)
            steep = [(group, (total,) + (0,) * (size - 1)) for group, size in zip(groups, sizes)]
            self.assertEqual(self.check(family_of(frame, steep)), 1)
            self.check(family_of(frame, flat[:2] + steep[2:]))

    def test_counts_up_to_a_million(self):
        source = random.Random(9)
        for groups in (RING, KNOT, RING + [(0, 2)], [(0, 1, 2), (1, 2, 3), (0, 3)]):
            for round_number in range(20):
                frame = (2,) * (max(max(group) for group in groups) + 1)
                self.check(any_family(frame, groups, source.randint(1, 10 ** 6), source))

    def test_what_was_told_changed_afterwards(self):
        for family in mixed_families(3, 20):
            told = part(family)
            kept = copy.deepcopy(told)
            told[0].reverse()
            told[0].append(1)
            told[2][0][0] = -1
            told[2][-1].append(1)
            told[2].reverse()
            self.assertEqual(part(family), kept)


class IsPartTest(unittest.TestCase):
    def check(self, family, told, answer):
        kept = copy.deepcopy((family, told))
        self.assertIs(is_part(family, told), answer, (family, told))
        self.assertEqual((family, told), kept)

    def test_other_parts(self):
        for numbers in ([1, 0, 1, 1], [0, 1, 2, 0]):
            for prices in ([[1, 1], [0, 0]], [[0, 0], [1, 1]]):
                self.check(SMALL, (numbers, 1, prices, 1), True)
            self.check(SMALL, (numbers, 1, [[1, 1], [1, 1]], 2), True)
            self.check(SMALL, (numbers, 1, [[3, 3], [4, 4]], 7), True)
        self.check(SMALL, ([2, 1, 4, 2], 3, [[1, 1], [0, 0]], 1), True)
        self.check(UNLIKE, ([1, 1], 1, [[1, 0], [0, 1]], 1), True)
        self.check(UNLIKE, ([BIG, BIG], BIG, [[BIG, 0], [0, BIG]], BIG), True)
        self.check(APART, ([0, 0], 1, [[0, 1], [1, 0]], 1), True)
        self.check(APART, ([0, 0], 5, [[0, 7], [9, 0]], 6), True)

    def test_parts_that_are_not_the_greatest(self):
        self.check(SMALL, ([1, 0, 1, 0], 1, [[1, 1], [0, 0]], 1), False)
        self.check(SMALL, ([0, 0, 0, 0], 1, [[1, 1], [0, 0]], 1), False)
        self.check(UNLIKE, ([1, 0], 1, [[1, 0], [0, 1]], 1), False)
        self.check(UNLIKE, ([1, 1], 2, [[1, 0], [0, 1]], 1), False)

    def test_prices_that_are_too_dear_or_too_cheap(self):
        self.check(UNLIKE, ([1, 1], 1, [[1, 1], [0, 0]], 1), False)
        self.check(UNLIKE, ([1, 1], 1, [[0, 0], [0, 0]], 1), False)
        self.check(UNLIKE, ([1, 1], 1, [[2, 0], [0, 0]], 1), False)
        self.check(UNLIKE, ([1, 1], 1, [[0, 0], [1, 0]], 1), False)
        self.check(APART, ([0, 0], 1, [[0, 1], [0, 0]], 1), False)
        self.check(APART, ([0, 0], 1, [[0, 1], [1, 0]], 2), False)

    def test_sums_above_the_counts(self):
        # Each sum of numbers is right, so that the prices show them as the greatest: but they are no part.
        self.check(SMALL, ([0, 0, 0, 3], 1, [[1, 1], [0, 0]], 1), False)
        self.check(SMALL, ([3, 0, 0, 0], 1, [[1, 1], [0, 0]], 1), False)
        self.check(SMALL, ([1, 0, 2, 0], 1, [[1, 1], [0, 0]], 1), False)
        self.check(UNLIKE, ([2, 0], 1, [[1, 0], [0, 1]], 1), False)
        self.check(UNLIKE, ([0, 2], 1, [[1, 0], [0, 1]], 1), False)

    def test_below_0(self):
        self.check(SMALL, ([2, -1, 0, 2], 1, [[1, 1], [0, 0]], 1), False)
        self.check(SMALL, ([-1, 2, 3, -1], 1, [[1, 1], [0, 0]], 1), False)
        self.check(SMALL, ([1, 0, 1, 1], 1, [[2, 2], [-1, -1]], 1), False)
        self.check(SMALL, ([1, 0, 1, 1], 1, [[-1, -1], [2, 2]], 1), False)
        self.check(SMALL, ([1, 0, 1, 1], 1, [[1 + BIG, 1 + BIG], [-BIG, -BIG]], 1), False)
        self.check(APART, ([0, 0], 1, [[0, -1], [1, 0]], 1), False)
        self.check(APART, ([0, 0], 1, [[0, 2], [2, 0]], 1), True)
        self.check(APART, ([-1, 1], 1, [[0, 2], [2, 0]], 1), False)

    def test_times_and_scale_below_1(self):
        noughts = [[0, 0], [0, 0]]
        self.check(SMALL, ([0, 0, 0, 0], 0, [[1, 1], [0, 0]], 1), False)
        self.check(SMALL, ([0, 0, 0, 0], -1, [[1, 1], [0, 0]], 1), False)
        self.check(SMALL, ([-1, 0, -1, -1], -1, [[1, 1], [0, 0]], 1), False)
        self.check(SMALL, ([1, 0, 1, 1], 1, noughts, 0), False)
        self.check(SMALL, ([0, 0, 0, 0], 1, noughts, 0), False)
        self.check(SMALL, ([0, 0, 0, 0], 1, noughts, -1), False)
        self.check(SMALL, ([1, 0, 1, 1], 1, [[-1, -1], [0, 0]], -1), False)
        self.check(APART, ([0, 0], 0, [[0, 1], [1, 0]], 1), False)
        self.check(APART, ([0, 0], 1, [[0, 1], [1, 0]], 0), False)
        self.check(APART, ([0, 0], 1, [[0, 1], [1, 0]], -BIG), False)

    def test_other_lengths(self):
        numbers, prices = [0, 1, 2, 0], [[1, 1], [0, 0]]
        self.check(SMALL, (numbers, 1, prices, 1), True)
        for other in ([], [0, 1, 2], [0, 1, 2, 0, 0], [0, 0, 1, 2, 0], [3], numbers * 2, [0] * 100):
            self.check(SMALL, (other, 1, prices, 1), False)
        for other in ([], [[1, 1]], [[1, 1], []], [[1, 1], [0]], [[1, 1], [0, 0, 0]], [[1, 1, 0], [0, 0]],
                      [[1], [0, 0]], [[1, 1], [0, 0], []], [[1, 1], [0, 0], [0, 0]], [[], [1, 1]], [[1, 1], [0] * 100],
                      [[1, 1, 0, 0]], [[1, 1]] + [[0, 0]] * 99):
            self.check(SMALL, (numbers, 1, other, 1), False)
        self.check(SMALL, (numbers, 1, prices), False)
        self.check(SMALL, (numbers, 1, prices, 1, 1), False)

    def test_truths_are_no_numbers(self):
        self.check(UNLIKE, ([1, True], 1, [[1, 0], [0, 1]], 1), False)
        self.check(UNLIKE, ([1, 1], True, [[1, 0], [0, 1]], 1), False)
        self.check(UNLIKE, ([1, 1], 1, [[1, 0], [0, True]], 1), False)
        self.check(UNLIKE, ([1, 1], 1, [[1, 0], [False, 1]], 1), False)
        self.check(UNLIKE, ([1, 1], 1, [[1, 0], [0, 1]], True), False)

    def test_all_small_numbers(self):
        right = 0
        for family in (UNLIKE, APART):
            for numbers in itertools.product(range(-1, 3), repeat=2):
                for prices in itertools.product(range(-1, 2), repeat=4):
                    for times, scale in itertools.product(range(-1, 3), repeat=2):
                        told = (list(numbers), times, [list(prices[:2]), list(prices[2:])], scale)
                        answer = slow_part(family, told)
                        right += answer
                        self.assertIs(is_part(family, told), answer, (family, told))
        self.assertGreater(right, 3)

    def test_some_times_over(self):
        for family in mixed_families(8, 30):
            told = part(family)
            for many, more in itertools.product((1, 2, 3, BIG), repeat=2):
                self.check(family, times_over(told, many, more), True)

    def test_another_part(self):
        source = random.Random(40)
        unlike = 0
        for family in mixed_families(12, 41):
            told, other = part(family), in_another_order(family, source)
            unlike += told != other
            self.check(family, other, True)
            self.check(family, in_between(told, other), True)
        self.assertGreater(unlike, 30)

    def test_one_number_changed(self):
        answers = []
        for family in mixed_families(2, 50):
            numbers, times, prices, scale = part(family)
            for place, number in enumerate(numbers):
                for more in (-number - 1, -1, 1, times):
                    other = [*numbers[:place], number + more, *numbers[place + 1:]]
                    self.check(family, (other, times, prices, scale), False)
            for at, each in enumerate(prices):
                for place, price in enumerate(each):
                    for more in (-price - 1, -1, 1, scale):
                        other = [*each[:place], price + more, *each[place + 1:]]
                        told = (numbers, times, [*prices[:at], other, *prices[at + 1:]], scale)
                        answers.append(slow_part(family, told))
                        self.check(family, told, answers[-1])
            for more in (-times - 1, -times, -1, 1, times):
                told = (numbers, times + more, prices, scale)
                self.check(family, told, slow_part(family, told))
            for more in (-scale - 1, -scale, -1, 1, scale):
                told = (numbers, times, prices, scale + more)
                self.check(family, told, slow_part(family, told))
        self.assertGreater(answers.count(False), 500)
        self.assertGreater(answers.count(True), 10)

    def test_one_list_longer_or_shorter(self):
        for family in mixed_families(4, 60):
            numbers, times, prices, scale = part(family)
            self.check(family, (numbers + [0], times, prices, scale), False)
            self.check(family, (numbers[:-1], times, prices, scale), False)
            self.check(family, (numbers, times, prices + [[0, 0]], scale), False)
            self.check(family, (numbers, times, prices[:-1], scale), False)
            for at, each in enumerate(prices):
                for other in (each + [0], each[:-1], []):
                    told = (numbers, times, [*prices[:at], other, *prices[at + 1:]], scale)
                    self.check(family, told, False)

    def test_the_part_of_another_family(self):
        source = random.Random(70)
        for family in families_over(some_lists(60, 71), 72):
            other = spoiled(family, source)
            for one, two in ((family, other), (other, family)):
                told = part(one)
                self.check(two, told, slow_part(two, told))


class ShareTest(unittest.TestCase):
    def check(self, family, top, bottom):
        kept = copy.deepcopy(family)
        told = share(family)
        self.assertEqual(told, (top, bottom), family)
        self.assertEqual([type(thing) for thing in (told, *told)], [tuple, int, int])
        self.assertEqual(family, kept)

    def test_by_hand(self):
        self.check(SMALL, 1, 1)
        self.check(UNLIKE, 2, 3)
        self.check(APART, 0, 1)
        self.check(family_of((2,), [((0,), (1, 3)), ((0,), (3, 1))]), 1, 2)
        self.check(HALVES, 1, 2)
        self.check(family_of((2,), [((0,), (10 ** 9, 0)), ((0,), (1, 10 ** 9 - 1))]), 1, 10 ** 9)

    def test_in_lowest_terms(self):
        for family in mixed_families(40, 80):
            numbers, times, prices, scale = part(family)
            exact = Fraction(sum(numbers), times * sum(family[1][0][1]))
            self.assertTrue(0 <= exact <= 1)
            self.check(family, exact.numerator, exact.denominator)

    def test_tables_of_all_marks(self):
        source = random.Random(81)
        for frame in ((2,), (3,), (2, 3), (2, 2, 2), (3, 2, 2)):
            marks, size = tuple(range(len(frame))), math.prod(frame)
            for many in range(1, min(8, 60 // size) + 1):
                total = source.choice((1, 4, 12, 10 ** 6, 10 ** 9))
                lists = [counts_of(total, size, source) for k in range(many)]
                exact = Fraction(sum(min(column) for column in zip(*lists)), total)
                self.check(family_of(frame, [(marks, counts) for counts in lists]), exact.numerator, exact.denominator)

    def test_groups_without_marks_in_common(self):
        source = random.Random(82)
        lists = [[(0,), (1,)], [(0, 2), (1,)], [(0, 1), (2, 3), (4,)], [(k,) for k in range(6)], [(0, 3), (1, 2)]]
        for groups in lists:
            frame = (2,) * (max(max(group) for group in groups) + 1)
            for total in (1, 2, 9, 10 ** 6, 10 ** 9):
                self.check(any_family(frame, groups, total, source), 1, 1)
                self.check(any_family((3,) + frame[1:5], groups[:5], total, source), 1, 1)

    def test_two_tables_on_each_of_two_groups(self):
        source = random.Random(83)
        for total in (1, 5, 12, 30, 10 ** 6):
            for round_number in range(10):
                family = any_family((3, 2), [(0,), (1,), (0,), (1,)], total, source)
                lists = [counts for group, counts in family[1]]
                least = min(sum(min(two) for two in zip(lists[k], lists[k + 2])) for k in (0, 1))
                exact = Fraction(least, total)
                self.check(family, exact.numerator, exact.denominator)

    def test_sums_of_numbers_on_all_rows(self):
        for lists in (some_trees(60, 84), some_lists(120, 85)):
            for family in families_over(lists, 86):
                self.check(family, 1, 1)

    def test_rings_with_noise(self):
        # Of a ring of n marks, or of three, the whole is glued till the noise has 2 of n cases; then it shrinks evenly.
        rings = [KNOT, RING, [(0, 1), (1, 2), (2, 3), (3, 4), (0, 4)]]
        rings.append([(0, 1), (1, 2), (2, 3), (3, 4), (4, 5), (0, 5)])
        for groups in rings:
            for of in (1, 4, 9, 60):
                for kept in range(of + 1):
                    exact = min(Fraction(1), Fraction((of - kept) * len(groups), 2 * of))
                    self.check(with_noise(groups, kept, of), exact.numerator, exact.denominator)

    def test_the_same_in_other_forms(self):
        source = random.Random(87)
        for family in mixed_families(15, 88):
            frame, tables = family
            told = share(family)
            self.check(family_of(frame, source.sample(tables, len(tables))), *told)
            times = source.choice((2, 3, 7, 10))
            if sum(tables[0][1]) * times <= 10 ** 9:
                over = [(group, [count * times for count in counts]) for group, counts in tables]
                self.check(family_of(frame, over), *told)
            again = source.choice(tables)
            if len(tables) < 8 and sum(len(counts) for group, counts in (*tables, again)) <= 60:
                self.check(family_of(frame, [*tables, again]), *told)
                self.check(family_of(frame, [again, *tables]), *told)

    def test_a_table_of_fewer_marks_beside(self):
        for family in any_families(some_lists(60, 89), 90):
            frame, tables = family
            told = share(family)
            group, counts = tables[-1]
            part_of = (group[0],)
            sums = {}
            for row, count in zip(itertools.product(*[range(frame[mark]) for mark in group]), counts):
                sums[row[0]] = sums.get(row[0], 0) + count
            if len(tables) < 8 and sum(len(counts) for group, counts in tables) + len(sums) <= 60:
                self.check(family_of(frame, [*tables, (part_of, [sums[k] for k in sorted(sums)])]), *told)


if __name__ == "__main__":
    unittest.main()
