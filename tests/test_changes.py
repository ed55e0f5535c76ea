"""Points 2, 3, 6 and 19 to 21: marks forgotten, kinds joined, marks exchanged, families added."""

import collections
import copy
import itertools
import random
import unittest
from fractions import Fraction

from gluedtables.changes import added, exchanged, forgotten, joined
from gluedtables.errors import NoFrame, NoTable
from gluedtables.glue import glued
from gluedtables.parts import share
from gluedtables.tables import family_of
from samples import any_family, families_over, mixed_families, slow_sums, some_lists, wide_families

SMALL = family_of((2, 3, 2), [
    ((0, 1), (1, 0, 2, 3, 0, 4)), ((1, 2), (1, 3, 0, 0, 2, 4)), ((2,), (3, 7)), ((1,), (4, 0, 6)),
])
RING = [(0, 1), (1, 2), (2, 3), (0, 3)]


def rows_on(frame, group):
    """The rows of a group."""
    return list(itertools.product(*[range(frame[mark]) for mark in group]))


def is_glued_family(family):
    """Whether a family is told as glued."""
    return glued(family)[0] == "glued"


def slow_forgotten(family, mark):
    """The family without a mark, by the words of point 19."""
    frame, tables = family
    told = []
    for group, counts in tables:
        rest = tuple(other for other in group if other != mark)
        if rest:
            fewer = tuple(other - (other > mark) for other in rest)
            told.append((fewer, tuple(slow_sums(frame, (group, counts), rest))))
    return frame[:mark] + frame[mark + 1:], tuple(told)


def slow_joined(family, mark, one, other):
    """The family with two kinds joined, by the words of point 20."""
    frame, tables = family
    kinds = frame[:mark] + (2,) + frame[mark + 1:]
    become = [one if kind == other else kind - (kind > other) for kind in range(3)]
    told = []
    for group, counts in tables:
        places = collections.Counter()
        for row, count in zip(rows_on(frame, group), counts):
            places[tuple(become[kind] if at == mark else kind for at, kind in zip(group, row))] += count
        told.append((group, tuple(places[row] for row in rows_on(kinds, group))))
    return kinds, tuple(told)


def slow_exchanged(family, order):
    """The family with its marks exchanged, by the words of point 21."""
    frame, tables = family
    kinds = dict(zip(order, frame))
    kinds = tuple(kinds[mark] for mark in range(len(frame)))
    told = []
    for group, counts in tables:
        rising = tuple(sorted(order[mark] for mark in group))
        places = {}
        for row, count in zip(rows_on(frame, group), counts):
            places[frozenset((order[mark], kind) for mark, kind in zip(group, row))] = count
        told.append((rising, tuple(places[frozenset(zip(rising, row))] for row in rows_on(kinds, rising))))
    return kinds, tuple(told)


class ForgottenTest(unittest.TestCase):
    def check(self, family, mark):
        kept = copy.deepcopy(family)
        told = forgotten(family, mark)
        self.assertEqual(family, kept)
        self.assertEqual(told, slow_forgotten(family, mark), (family, mark))
        self.assertEqual(told, family_of(*told))
        return told

    def test_by_hand(self):
        self.assertEqual(forgotten(SMALL, 0), ((3, 2), (
            ((0,), (4, 0, 6)), ((0, 1), (1, 3, 0, 0, 2, 4)), ((1,), (3, 7)), ((0,), (4, 0, 6)),
        )))
        self.assertEqual(forgotten(SMALL, 1), ((2, 2), (((0,), (3, 7)), ((1,), (3, 7)), ((1,), (3, 7)))))
        self.assertEqual(forgotten(SMALL, 2), ((2, 3), (
            ((0, 1), (1, 0, 2, 3, 0, 4)), ((1,), (4, 0, 6)), ((1,), (4, 0, 6)),
        )))

    def test_many_families(self):
        for family in mixed_families(40, 1):
            if len(family[0]) > 1:
                for mark in range(len(family[0])):
                    self.check(family, mark)
        for family in wide_families(2):
            for mark in range(len(family[0])):
                self.check(family, mark)

    def test_tables_of_the_mark_alone_are_left_out(self):
        family = family_of((2, 2), [((0,), (1, 2)), ((1,), (0, 3)), ((0,), (3, 0)), ((0, 1), (1, 1, 1, 0))])
        self.assertEqual(self.check(family, 0), ((2,), (((0,), (0, 3)), ((0,), (2, 1)))))
        self.assertEqual(self.check(family, 1), ((2,), (((0,), (1, 2)), ((0,), (3, 0)), ((0,), (2, 1)))))

    def test_the_only_mark(self):
        for frame in ((2,), (3,)):
            for many in (1, 3, 8):
                family = family_of(frame, [((0,), (1,) * frame[0])] * many)
                kept = copy.deepcopy(family)
                with self.assertRaises(NoFrame):
                    forgotten(family, 0)
                self.assertEqual(family, kept)

    def test_one_behind_the_other(self):
        family = family_of((2,) * 6, [(tuple(range(5)), tuple(range(32))), ((5,), (0, 496))])
        for left in (5, 4, 3, 2, 1):
            family = self.check(family, 0)
            self.assertEqual(family[0], (2,) * left)
        self.assertEqual(family, ((2,), (((0,), (0, 496)),)))
        with self.assertRaises(NoFrame):
            forgotten(family, 0)

    def test_glued_or_never_stays(self):
        stayed = {True: 0, False: 0}
        alone = 0
        for family in mixed_families(30, 3):
            if len(family[0]) > 1:
                before = is_glued_family(family)
                for mark in range(len(family[0])):
                    after = is_glued_family(forgotten(family, mark))
                    stayed[before] += before == after
                    once = len([group for group, counts in family[1] if mark in group]) == 1
                    alone += once and not before
                    if before or once:
                        self.assertEqual(after, before, (family, mark))
        self.assertGreater(min(stayed.values()), 100)
        self.assertGreater(alone, 30)

    def test_never_may_become_glued(self):
        family = family_of((2,) * 4, [(group, (1, 0, 0, 1)) for group in RING[:3]] + [(RING[3], (0, 1, 1, 0))])
        self.assertFalse(is_glued_family(family))
        self.assertTrue(is_glued_family(forgotten(family, 0)))


class JoinedTest(unittest.TestCase):
    def check(self, family, mark, one, other):
        kept = copy.deepcopy(family)
        told = joined(family, mark, one, other)
        self.assertEqual(family, kept)
        self.assertEqual(told, slow_joined(family, mark, one, other), (family, mark, one, other))
        self.assertEqual(told, family_of(*told))
        return told

    def test_by_hand(self):
        self.assertEqual(joined(SMALL, 1, 0, 1), ((2, 2, 2), (
            ((0, 1), (1, 2, 3, 4)), ((1, 2), (1, 3, 2, 4)), ((2,), (3, 7)), ((1,), (4, 6)),
        )))
        self.assertEqual(joined(SMALL, 1, 0, 2), ((2, 2, 2), (
            ((0, 1), (3, 0, 7, 0)), ((1, 2), (3, 7, 0, 0)), ((2,), (3, 7)), ((1,), (10, 0)),
        )))
        self.assertEqual(joined(SMALL, 1, 1, 2), ((2, 2, 2), (
            ((0, 1), (1, 2, 3, 4)), ((1, 2), (1, 3, 2, 4)), ((2,), (3, 7)), ((1,), (4, 6)),
        )))
        three = family_of((3,), [((0,), (1, 20, 300))])
        self.assertEqual(joined(three, 0, 0, 1), ((2,), (((0,), (21, 300)),)))
        self.assertEqual(joined(three, 0, 0, 2), ((2,), (((0,), (301, 20)),)))
        self.assertEqual(joined(three, 0, 1, 2), ((2,), (((0,), (1, 320)),)))

    def test_many_families(self):
        taken = 0
        for family in itertools.chain(mixed_families(40, 4), wide_families(5)):
            for mark, kinds in enumerate(family[0]):
                if kinds == 3:
                    taken += 1
                    for one, other in ((0, 1), (0, 2), (1, 2)):
                        self.check(family, mark, one, other)
        self.assertGreater(taken, 100)

    def test_one_behind_the_other(self):
        family = family_of((3, 3, 3), [((0, 1, 2), tuple(range(27)))])
        for mark in (2, 0, 1):
            family = self.check(family, mark, 0, 2)
        self.assertEqual(family[0], (2, 2, 2))

    def refused(self, family, mark, one, other):
        kept = copy.deepcopy(family)
        with self.assertRaises(NoFrame, msg=(family, mark, one, other)):
            joined(family, mark, one, other)
        self.assertEqual(family, kept)

    def test_marks_of_two_kinds(self):
        for one, other in itertools.product(range(-1, 4), repeat=2):
            self.refused(SMALL, 0, one, other)
            self.refused(SMALL, 2, one, other)
            self.refused(joined(SMALL, 1, 0, 1), 1, one, other)

    def test_kinds_that_are_not_so(self):
        near = (-10 ** 20, -3, -2, -1, 0, 1, 2, 3, 4, 10 ** 20)
        for one, other in itertools.product(near, repeat=2):
            if (one, other) not in ((0, 1), (0, 2), (1, 2)):
                self.refused(SMALL, 1, one, other)

    def test_what_is_glued_stays_glued(self):
        found = []
        for family in mixed_families(40, 6):
            for mark, kinds in enumerate(family[0]):
                if kinds == 3:
                    before = is_glued_family(family)
                    for one, other in ((0, 1), (0, 2), (1, 2)):
                        found.append((before, is_glued_family(joined(family, mark, one, other))))
        self.assertGreater(found.count((True, True)), 100)
        self.assertEqual(found.count((True, False)), 0)
        self.assertGreater(found.count((False, True)), 3)
        self.assertGreater(found.count((False, False)), 100)


class ExchangedTest(unittest.TestCase):
    def check(self, family, order):
        kept = copy.deepcopy((family, order))
        told = exchanged(family, order)
        self.assertEqual((family, order), kept)
        self.assertEqual(told, slow_exchanged(family, order), (family, order))
        self.assertEqual(told, family_of(*told))
        return told

    def test_by_hand(self):
        self.assertEqual(exchanged(SMALL, [1, 2, 0]), ((2, 2, 3), (
            ((1, 2), (1, 0, 2, 3, 0, 4)), ((0, 2), (1, 0, 2, 3, 0, 4)), ((0,), (3, 7)), ((2,), (4, 0, 6)),
        )))
        self.assertEqual(exchanged(SMALL, [1, 0, 2]), ((3, 2, 2), (
            ((0, 1), (1, 3, 0, 0, 2, 4)), ((0, 2), (1, 3, 0, 0, 2, 4)), ((2,), (3, 7)), ((0,), (4, 0, 6)),
        )))

    def test_many_families(self):
        source = random.Random(7)
        for family in itertools.chain(mixed_families(60, 8), wide_families(9)):
            order = source.sample(range(len(family[0])), len(family[0]))
            there = self.check(family, order)
            back = [order.index(mark) for mark in range(len(order))]
            self.assertEqual(self.check(there, back), family)

    def test_all_orders_of_unlike_kinds(self):
        tables = [((0, 1, 2, 3), tuple(range(36))), ((0, 2), (600, 20, 9, 1)), ((3,), (1, 28, 601))]
        family = family_of((2, 3, 2, 3), tables)
        for order in itertools.permutations(range(4)):
            self.check(family, list(order))

    def test_no_mark_moved(self):
        for family in mixed_families(10, 10):
            self.assertEqual(self.check(family, list(range(len(family[0])))), family)

    def test_one_behind_the_other(self):
        source = random.Random(11)
        for family in mixed_families(15, 12):
            one = source.sample(range(len(family[0])), len(family[0]))
            other = source.sample(range(len(family[0])), len(family[0]))
            both = [other[mark] for mark in one]
            self.assertEqual(exchanged(exchanged(family, one), other), exchanged(family, both))

    def test_glued_or_never_stays(self):
        source = random.Random(13)
        found = []
        for family in mixed_families(25, 14):
            there = exchanged(family, source.sample(range(len(family[0])), len(family[0])))
            found.append(is_glued_family(family))
            self.assertEqual(is_glued_family(there), found[-1])
            self.assertEqual(share(there), share(family))
        self.assertGreater(min(found.count(True), found.count(False)), 30)

    def test_the_order_changed_afterwards(self):
        order = [1, 2, 0]
        told = exchanged(SMALL, order)
        kept = copy.deepcopy(told)
        order.reverse()
        self.assertEqual(told, kept)
        self.assertEqual(exchanged(SMALL, [1, 2, 0]), kept)


class AddedTest(unittest.TestCase):
    def refused(self, one, other, at):
        kept = copy.deepcopy((one, other))
        for two in ((one, other), (other, one)):
            with self.assertRaises(NoTable, msg=two) as caught:
                added(*two)
            self.assertEqual(caught.exception.at, at, two)
        self.assertEqual((one, other), kept)

    def check(self, one, other):
        kept = copy.deepcopy((one, other))
        told = added(one, other)
        self.assertEqual((one, other), kept)
        self.assertEqual(told, (one[0], tuple(
            (group, tuple(left + right for left, right in zip(counts, others)))
            for (group, counts), (same, others) in zip(one[1], other[1])
        )))
        self.assertEqual(told, family_of(*told))
        self.assertEqual(added(other, one), told)
        return told

    def test_by_hand(self):
        one = family_of((2, 2), [((0,), (1, 2)), ((0, 1), (0, 1, 2, 0))])
        other = family_of((2, 2), [((0,), (5, 0)), ((0, 1), (1, 1, 1, 2))])
        self.assertEqual(added(one, other), ((2, 2), (((0,), (6, 2)), ((0, 1), (1, 2, 3, 2)))))
        self.assertEqual(added(one, one), ((2, 2), (((0,), (2, 4)), ((0, 1), (0, 2, 4, 0)))))

    def test_glued_ones_and_shares(self):
        source = random.Random(15)
        found = []
        for family in mixed_families(30, 16):
            groups = [group for group, counts in family[1]]
            beside = any_family(family[0], groups, source.choice((1, 9, 10 ** 6)), source)
            for other in (family, beside):
                if sum(family[1][0][1]) + sum(other[1][0][1]) > 10 ** 9:
                    self.refused(family, other, 0)
                    continue
                told = self.check(family, other)
                both = (is_glued_family(family), is_glued_family(other))
                found.append((*both, is_glued_family(told)))
                parts = [Fraction(*share(each)) * sum(each[1][0][1]) for each in (told, family, other)]
                self.assertGreaterEqual(parts[0], parts[1] + parts[2])
        self.assertEqual(found.count((True, True, False)), 0)
        self.assertGreater(found.count((True, True, True)), 50)
        self.assertGreater(found.count((False, False, False)), 50)

    def test_two_unlike_glued_ones(self):
        taken = 0
        for seed, one in enumerate(families_over(some_lists(80, 17), 18)):
            for other in families_over([[group for group, counts in one[1]]], seed):
                if other[0] == one[0]:
                    taken += 1
                    self.assertTrue(is_glued_family(self.check(one, other)))
        self.assertGreater(taken, 10)

    def test_never_glued_ones_may_be_glued_together(self):
        one = family_of((2,), [((0,), (1, 2)), ((0,), (2, 1))])
        other = family_of((2,), [((0,), (2, 1)), ((0,), (1, 2))])
        self.assertEqual([is_glued_family(one), is_glued_family(other)], [False, False])
        self.assertTrue(is_glued_family(self.check(one, other)))
        self.assertEqual([share(one), share(other), share(added(one, other))], [(2, 3), (2, 3), (1, 1)])

    def test_other_groups(self):
        one = family_of((2, 2, 2), [((0, 1), (1, 1, 1, 1)), ((1, 2), (1, 1, 1, 1)), ((0,), (2, 2)), ((2,), (2, 2))])
        for at, groups in (
            (0, [(1, 2), (0, 1), (0,), (2,)]), (0, [(0, 2), (1, 2), (0,), (2,)]), (0, [(0,), (1, 2), (0,), (2,)]),
            (1, [(0, 1), (0, 2), (0,), (2,)]), (1, [(0, 1), (2,), (0,), (1,)]), (1, [(0, 1), (0, 1, 2), (0,), (2,)]),
            (2, [(0, 1), (1, 2), (1,), (2,)]), (2, [(0, 1), (1, 2), (2,), (0,)]), (3, [(0, 1), (1, 2), (0,), (1,)]),
        ):
            tables = [(group, (8 // 2 ** len(group),) * 2 ** len(group)) for group in groups]
            self.refused(one, family_of((2, 2, 2), tables), at)

    def test_other_frames(self):
        one = family_of((2, 3), [((0,), (1, 1)), ((1,), (1, 1, 0)), ((0,), (2, 0))])
        for frame, groups in (((2, 2), [(0,), (1,), (0,)]), ((3, 2), [(0,), (1,), (0,)]),
                              ((2, 3, 2), [(0,), (1,), (2,)]),
                              ((2, 2), [(0,), (0,), (1,)]), ((2,), [(0,), (0,), (0,)])):
            tables = [(group, [2] + [0] * (frame[group[0]] - 1)) for group in groups]
            self.refused(one, family_of(frame, tables), 0)

    def test_another_number_of_tables(self):
        tables = [((0,), (1, 1)), ((0, 1), (1, 0, 0, 1)), ((1,), (2, 0)), ((0,), (2, 0))]
        one = family_of((2, 2), tables)
        for other in (tables[:2], tables[:3], tables + [((1,), (1, 1))], tables[1:], tables * 2, tables[1:2]):
            self.refused(one, family_of((2, 2), other), 0)

    def test_the_greatest_whole(self):
        most = 10 ** 9
        for left in (1, most // 2, most - 1):
            one = family_of((2, 2), [((0,), (left, 0)), ((1,), (0, left))])
            right = most - left
            other = family_of((2, 2), [((0,), (0, right)), ((1,), (0, right))])
            self.assertEqual(self.check(one, other), ((2, 2), (((0,), (left, right)), ((1,), (0, most)))))
            for more in (right + 1, most):
                self.refused(one, family_of((2, 2), [((0,), (0, more)), ((1,), (0, more))]), 0)
            # The groups are looked at before the whole.
            self.refused(one, family_of((2, 2), [((0,), (0, most)), ((0, 1), (0, 0, 0, most))]), 1)


if __name__ == "__main__":
    unittest.main()
