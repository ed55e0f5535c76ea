"""Points 2, 3 and 16: tables that agree two by two and are never glued, over groups that are no tree."""

import copy
import itertools
import random
import unittest

from gluedtables.apart import never
from gluedtables.errors import NoFrame, NoTable, NoTree, TooMany
from gluedtables.glue import glued, is_bet
from gluedtables.parts import share
from gluedtables.tables import agree, family_of
from samples import (
    groups_on, knot_of, renumbered, ring_of, rings_and_knots, slow_agree, slow_bet, slow_pairs, some_lists, some_trees,
)


def ring_counts(ring, group):
    """The counts on a group by a ring, by the words of point 16."""
    counts = []
    ends = {ring[0], ring[-1]}
    for row in itertools.product((0, 1), repeat=len(group)):
        kinds = dict(zip(group, row))
        on_ring = [mark for mark in group if mark in ring]
        if any(kinds[mark] for mark in group if mark not in ring):
            counts.append(0)
        elif not on_ring:
            counts.append(2)
        elif len(on_ring) == 1:
            counts.append(1)
        else:
            one, other = on_ring
            counts.append(int((kinds[one] == kinds[other]) != (ends == {one, other})))
    return counts


def knot_counts(knot, group):
    """The counts on a group by a knot, by the words of point 16."""
    counts = []
    for row in itertools.product((0, 1), repeat=len(group)):
        ones = [mark for mark, kind in zip(group, row) if kind]
        if not ones:
            counts.append(len(knot) - 1 - len(set(knot) & set(group)))
        else:
            counts.append(int(len(ones) == 1 and ones[0] in knot))
    return counts


def turned(ring):
    """A ring, begun at each of its marks."""
    return [ring[k:] + ring[:k] for k in range(len(ring))]


def right_families(groups):
    """Each family over the groups that point 16 lets be told, by whichever ring or knot."""
    frame = (2,) * (max(max(group) for group in groups) + 1)
    families = []
    for word, marks in rings_and_knots(groups):
        if word == "knot":
            families.append(family_of(frame, [(group, knot_counts(marks, group)) for group in groups]))
        else:
            for ring in turned(marks):
                families.append(family_of(frame, [(group, ring_counts(ring, group)) for group in groups]))
    return families


def rows_together(groups):
    return sum(1 << len(group) for group in groups)


class NeverTest(unittest.TestCase):
    def check(self, groups):
        """Walks what is told of groups, and gives the family."""
        kept = copy.deepcopy(groups)
        told = never(groups)
        self.assertEqual(groups, kept)
        self.assertEqual([type(told), len(told)], [tuple, 2])
        family, bet = told
        self.assertIn(family, right_families(groups), groups)
        self.assertEqual([type(thing) for thing in (family, *family)], [tuple] * 3)
        self.assertEqual([(type(group), type(counts)) for group, counts in family[1]], [(tuple, tuple)] * len(groups))
        self.assertEqual([group for group, counts in family[1]], groups)
        self.assertEqual(family_of(*family), family)
        self.assertIsNone(slow_agree(family), groups)
        self.assertIsNone(agree(family), groups)
        self.assertEqual([type(bet)] + [type(numbers) for numbers in bet], [list] * (1 + len(groups)))
        self.assertTrue(slow_bet(family, bet), (groups, told))
        self.assertIs(is_bet(family, bet), True)
        self.assertEqual(glued(family)[0], "never")
        self.assertNotEqual(share(family), (1, 1))
        return family

    def test_a_ring_by_hand(self):
        same, unlike = (1, 0, 0, 1), (0, 1, 1, 0)
        frame, tables = self.check(ring_of([0, 1, 2, 3]))
        self.assertEqual(frame, (2,) * 4)
        self.assertEqual(sorted(counts for group, counts in tables), [unlike, same, same, same])
        frame, tables = self.check([(0, 1), (1, 2), (2, 3), (0, 3), (1,), (4,), (3, 4)])
        self.assertEqual(frame, (2,) * 5)
        self.assertEqual(sorted(counts for group, counts in tables[:4]), [unlike, same, same, same])
        self.assertEqual([counts for group, counts in tables[4:]], [(1, 1), (2, 0), (1, 0, 1, 0)])

    def test_a_knot_by_hand(self):
        family = self.check([(0, 1), (1, 2), (0, 2)])
        self.assertEqual(family, ((2,) * 3, tuple((group, (0, 1, 1, 0)) for group in ((0, 1), (1, 2), (0, 2)))))
        family = self.check([(0, 1), (1, 2), (0, 2), (3,), (0,), (2, 3)])
        self.assertEqual([counts for group, counts in family[1][3:]], [(2, 0), (1, 1), (1, 0, 1, 0)])
        family = self.check(knot_of([0, 1, 2, 3]))
        self.assertEqual({counts for group, counts in family[1]}, {(0, 1, 1, 0, 1, 0, 0, 0)})
        family = self.check(knot_of([0, 1, 2, 3]) + [(0, 3), (2,), (4,)])
        self.assertEqual([counts for group, counts in family[1][4:]], [(1, 1, 1, 0), (2, 1), (3, 0)])

    def test_rings_of_four_five_and_six_marks(self):
        for size in (4, 5, 6):
            for rest in itertools.permutations(range(1, size)):
                if rest[0] < rest[-1]:
                    self.check(ring_of([0, *rest]))

    def test_rings_with_groups_beside(self):
        source = random.Random(1)
        for size in (4, 5, 6):
            for round_number in range(60):
                ring = source.sample(range(size), size)
                groups = ring_of(ring)
                for k in range(source.randint(1, 8 - size)):
                    others = list(range(size, 6))
                    common = source.choice(groups) if source.random() < 0.7 else ()
                    group = source.sample(common, min(len(common), source.randint(0, 2)))
                    group += source.sample(others, source.randint(0, len(others)))
                    groups.append(tuple(sorted(set(group))) or source.choice(groups))
                source.shuffle(groups)
                groups = renumbered(groups)
                family = self.check(groups)
                self.assertEqual(sum(family[1][0][1]), 2)

    def test_knots_with_groups_beside(self):
        source = random.Random(2)
        for size in (3, 4):
            for round_number in range(100):
                knot = source.sample(range(6), size)
                groups = knot_of(knot)
                others = [mark for mark in range(6) if mark not in knot]
                for k in range(source.randint(0, 4)):
                    common = source.choice(groups)
                    group = source.sample(common, source.randint(0, min(2, len(common))))
                    group = set(group) | set(source.sample(others, source.randint(0, 2)))
                    if group and rows_together(groups) + (1 << len(group)) <= 60:
                        groups.append(tuple(sorted(group)))
                source.shuffle(groups)
                self.check(renumbered(groups))

    def test_knots_within_greater_groups(self):
        self.check([(0, 1, 3), (1, 2, 4), (0, 2, 5)])
        self.check([(0, 1, 3, 4), (1, 2, 4, 5), (0, 2, 5)])
        self.check([(0, 1, 2, 4), (0, 1, 3), (0, 2, 3, 4), (1, 2, 3)])
        self.check([(0, 1, 2), (0, 1, 3), (0, 2, 3), (1, 2, 3), (4, 5), (0, 4), (0, 5)])

    def test_all_lists_of_three_groups_of_four_marks(self):
        for groups in itertools.product(groups_on(range(4)), repeat=3):
            marks = {mark for group in groups for mark in group}
            if slow_pairs(groups)[1] > 1:
                if marks == set(range(len(marks))):
                    self.check(list(groups))
            else:
                with self.assertRaises(NoTree):
                    never(list(groups))

    def test_many_lists(self):
        words = set()
        wholes = set()
        for groups in some_lists(700, 3):
            groups = renumbered(groups)
            if slow_pairs(groups)[1] > 1 and rows_together(groups) <= 60:
                family = self.check(groups)
                words.update(word for word, marks in rings_and_knots(groups))
                wholes.add((sum(family[1][0][1]), len(groups)))
        self.assertEqual(words, {"ring", "knot"})
        self.assertGreater(len(wholes), 5)

    def test_at_sixty_rows(self):
        groups = [(0, 1, 2, 3), (2, 3, 4, 5), (0, 2, 4), (1, 3, 5), (0, 5), (1, 4), (0,), (3,)]
        self.assertEqual(rows_together(groups), 60)
        self.check(groups)
        groups = knot_of([0, 1, 2, 3]) + [(2, 3, 4), (3, 4, 5), (0, 1, 5), (0, 4)]
        self.assertEqual(rows_together(groups), 60)
        self.check(groups)

    def test_what_was_told_changed_afterwards(self):
        for groups in (ring_of([0, 1, 2, 3]), knot_of([0, 1, 2])):
            told = never(groups)
            kept = copy.deepcopy(told)
            told[1][0][0] = 5
            told[1][1].append(1)
            told[1].reverse()
            self.assertEqual(never(groups), kept)


class RefusedTest(unittest.TestCase):
    def check(self, refusal, groups):
        kept = copy.deepcopy(groups)
        with self.assertRaises(refusal) as caught:
            never(groups)
        self.assertEqual(groups, kept)
        return caught.exception

    def test_trees(self):
        for groups in ([(0,)], [(0, 1)] * 8, [(0, 1), (1, 2)], [(0,), (1,)], [(0, 1), (1, 2), (0, 2), (0, 1, 2)]):
            self.check(NoTree, groups)
        for groups in some_trees(200, 4):
            self.check(NoTree, groups)
            self.check(NoTree, renumbered(groups))

    def test_trees_first(self):
        self.check(NoTree, [(0, 1, 2, 3, 4, 5)])
        self.check(NoTree, [(0, 1, 2, 3, 4), (0, 1, 2, 3, 5)])
        self.check(NoTree, [(0, 1)] * 9)
        self.check(NoTree, [(0, 2), (2, 4)])
        self.check(NoTree, [(0, 1), (5, 6)])

    def test_too_many_tables(self):
        self.check(TooMany, ring_of([0, 1, 2, 3]) + [(0,)] * 5)
        self.check(TooMany, ring_of([0, 1, 2, 3, 4, 5]) + [(0,), (1,), (2,)])
        self.check(TooMany, [(0, 1), (1, 2), (0, 2)] * 4)

    def test_too_many_rows(self):
        self.check(TooMany, knot_of([0, 1, 2, 3, 4]))
        self.check(TooMany, knot_of([0, 1, 2, 3, 4, 5]))
        self.check(TooMany, [(0, 1), (1, 2), (0, 2), (0, 1, 3, 4, 5), (2, 3, 4, 5), (5,)])
        sixty_two = [(0, 1, 2, 3), (2, 3, 4, 5), (0, 2, 4), (1, 3, 5), (0, 5), (1, 4), (0,), (3, 5)]
        self.assertEqual(rows_together(sixty_two), 62)
        self.check(TooMany, sixty_two)

    def test_many_with_too_many_rows(self):
        found = 0
        for groups in some_lists(700, 5):
            groups = renumbered(groups)
            if slow_pairs(groups)[1] > 1 and rows_together(groups) > 60:
                found += 1
                self.check(TooMany, groups)
        self.assertGreater(found, 20)

    def test_too_many_marks(self):
        self.check(NoFrame, ring_of([0, 1, 2, 3, 4, 5, 6]))
        self.check(NoFrame, [(0, 1), (1, 2), (0, 2), (3, 4, 5, 6)])
        self.check(NoFrame, [(0, 1), (1, 6), (0, 6)])

    def test_too_many_marks_come_before_too_many_tables(self):
        self.check(NoFrame, ring_of([0, 1, 2, 3, 4, 5, 6]) + [(0,), (1,)])
        self.check(NoFrame, [(0, 1), (1, 2), (0, 2), (0, 1, 3, 4, 5, 6)] + [(0, 1), (1, 2), (0, 2)] * 2)

    def test_a_mark_in_no_group(self):
        self.assertEqual(self.check(NoTable, [(0, 1), (1, 3), (0, 3)]).at, 3)
        self.assertEqual(self.check(NoTable, ring_of([1, 2, 3, 4])).at, 4)
        self.assertEqual(self.check(NoTable, ring_of([0, 1, 2, 3]) + [(5,)]).at, 5)

    def test_too_many_come_before_a_mark_in_no_group(self):
        self.check(TooMany, [(0, 1), (1, 3), (0, 3)] * 3)
        self.check(TooMany, knot_of([0, 1, 2, 4, 5]))


if __name__ == "__main__":
    unittest.main()
