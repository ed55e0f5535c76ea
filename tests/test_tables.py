"""Points 2, 6 and 7: families, sums, and whether tables agree."""

import copy
import itertools
import random
import unittest

from gluedtables.errors import NoFrame, NoTable, TooMany
from gluedtables.frames import rows_of
from gluedtables.tables import agree, family_of, groups_of, sums, whole
from samples import cut, slow_agree, slow_sums

BIG = 10 ** 59
MOST = 10 ** 9
FRAME = (2, 2, 3)
TABLES = [
    ((0, 1), (1, 2, 3, 0)),
    ((1, 2), (1, 0, 3, 2, 0, 0)),
    ((2,), (3, 0, 3)),
    ((0, 1), (6, 0, 0, 0)),
]
NO_COUNTS = [-1, -BIG, True, False, None, "", "1", [], [1], (1,), {}, 1.0]
NO_PAIRS = [
    None, True, 0, 6, "", "01", [], (), {}, object(),
    [(0,), (3, 3)], ((0,),), ((0,), (3, 3), ()), ((0,), (3, 3), (0,)), {0: (3, 3)},
]
NO_GROUPS = [
    (), [], (1, 0), [1, 0], (0, 0), (0, 3), (3,), (-1,), (BIG,), (True,), (False,), (None,), ("0",),
    ([0],), ((0,),), (0, None), (0, True), None, True, 0, 1, "", "0", {0: 1}, {0}, range(1),
]
# Tables over FRAME that are none, the wholes that don't fit behind those that are none by themselves.
BAD = (
    NO_PAIRS
    + [(group, (3, 3)) for group in NO_GROUPS]
    + [((0,), counts) for counts in ((), [], (6,), (3, 3, 0), [3, 3, 0], (6,) * 100, None, True, 6, "33", {3: 3}, {3, 4})]
    + [((0,), (6, count)) for count in NO_COUNTS]
    + [((0,), [count, 6]) for count in NO_COUNTS]
    + [((0,), (7, -1)), ((0,), (0, 0)), ((0,), (MOST, 1)), ((0,), (BIG, BIG))]
)
UNLIKE = [((0,), (3, 4)), ((0,), (5, 0)), ((0,), (MOST, 0)), ((1, 2), (1, 0, 0, 0, 0, 0))]
NO_FRAMES = [None, (), [], 2, "223", (2, 1, 3), [2, True, 3], (2, 4), (2, "2"), (3, 3, 2, 2, 2), [2] * 7]


def as_lists(tables):
    return [(list(group), list(counts)) for group, counts in tables]


def flat(frame, group, total):
    """A table with its whole on the first row."""
    rows = len(rows_of(frame, group))
    return (group, (total,) + (0,) * (rows - 1))


class FamilyTest(unittest.TestCase):
    def refuse_at(self, frame, tables, at):
        with self.assertRaises(NoTable, msg=repr((frame, tables))) as caught:
            family_of(frame, tables)
        self.assertEqual(caught.exception.at, at, (frame, tables))

    def refuse_many(self, frame, tables):
        with self.assertRaises(TooMany, msg=repr((frame, tables))):
            family_of(frame, tables)

    def refuse_frame(self, frame, tables):
        with self.assertRaises(NoFrame, msg=repr((frame, tables))):
            family_of(frame, tables)

    def test_made_of_lists_and_tuples(self):
        for frame in (FRAME, list(FRAME)):
            for tables in (TABLES, as_lists(TABLES), TABLES[:2] + as_lists(TABLES[2:])):
                family = family_of(frame, tables)
                self.assertEqual(family, (FRAME, tuple(TABLES)))
                for thing in (family, family[0], family[1]) + family[1]:
                    self.assertIs(type(thing), tuple)
                for group, counts in family[1]:
                    self.assertIs(type(group), tuple)
                    self.assertIs(type(counts), tuple)

    def test_a_family_is_made_again_of_itself(self):
        family = family_of(FRAME, TABLES)
        self.assertEqual(family_of(family[0], list(family[1])), family)

    def test_groups_within_one_another_and_alike(self):
        tables = [((0, 1), (1, 1, 1, 1)), ((0,), (0, 4)), ((0, 1), (4, 0, 0, 0)), ((0,), (0, 4))]
        self.assertEqual(family_of((2, 2), tables), ((2, 2), tuple(tables)))

    def test_what_is_handed_in_stays_as_it_was(self):
        frame = list(FRAME)
        tables = as_lists(TABLES)
        kept = copy.deepcopy((frame, tables))
        family = family_of(frame, tables)
        self.assertEqual((frame, tables), kept)
        frame[0] = 3
        tables[0][0].append(2)
        tables[0][1][0] = 100
        tables.pop()
        self.assertEqual(family, (FRAME, tuple(TABLES)))
        self.assertEqual(whole(family), 6)

    def test_what_is_refused_stays_as_it_was(self):
        tables = as_lists(TABLES) + [[[0], [1, 2]], ([0, 0], [1])]
        kept = copy.deepcopy(tables)
        self.refuse_at(FRAME, tables, 4)
        self.assertEqual(tables, kept)

    def test_no_frame(self):
        for frame in NO_FRAMES:
            self.refuse_frame(frame, TABLES)

    def test_no_frame_ahead_of_all_else(self):
        for frame in NO_FRAMES:
            for tables in ([], [None], TABLES * 3, [flat(FRAME, (0, 1, 2), 1)] * 6, [((5,), (1, 1))], UNLIKE):
                self.refuse_frame(frame, tables)

    def test_eight_and_nine_tables(self):
        table = ((0,), (1, 0))
        self.assertEqual(family_of((2,), [table] * 8), ((2,), (table,) * 8))
        self.refuse_many((2,), [table] * 9)
        self.refuse_many((2,), [table] * 100)

    def test_sixty_and_sixty_one_rows(self):
        frame = (3, 3, 3, 2)
        sixty = [flat(frame, group, 5) for group in ((0, 1, 2, 3), (0,), (1,))]
        self.assertEqual(family_of(frame, sixty), (frame, tuple(sixty)))
        more = [flat(frame, group, 5) for group in ((0, 1, 2, 3), (0,), (3,), (3,))]
        self.refuse_many(frame, more)
        self.refuse_many(frame, as_lists(more))
        self.refuse_many((2,) * 6, [flat((2,) * 6, (0, 1, 2, 3, 4, 5), 5)])

    def test_sixty_rows_over_eight_tables(self):
        frame = (2,) * 6
        groups = [(0, 1, 2, 3), (2, 3, 4, 5), (0, 1, 4), (0, 3, 5), (1, 2), (4, 5)]
        tables = [flat(frame, group, 1) for group in groups]
        edge = tables + [flat(frame, (0,), 1), flat(frame, (5,), 1)]
        self.assertEqual(family_of(frame, edge), (frame, tuple(edge)))
        self.refuse_many(frame, tables + [flat(frame, (0, 1), 1), flat(frame, (5,), 1)])

    def test_too_many_ahead_of_no_table(self):
        frame = (3, 3, 3, 2)
        full = flat(frame, (0, 1, 2, 3), 5)
        for bad in BAD:
            self.refuse_many(FRAME, [bad] * 9)
            self.refuse_many(FRAME, [bad] + TABLES * 2)
            self.refuse_many(frame, [bad, full, full])
        self.refuse_many(frame, [flat(frame, (0, 1, 2, 3), 4), flat(frame, (0, 1), 5)])
        self.refuse_many((2, 2), [((0,), (1, 0))] * 9)

    def test_rows_count_whatever_the_counts_are(self):
        frame = (3, 3, 3, 2)
        full = flat(frame, (0, 1, 2, 3), 5)
        for counts in (None, (), (1,), "", 7, (0,) * 9, (-1,) * 9, [None] * 9):
            self.refuse_many(frame, [full, ((0, 1), counts)])
            self.refuse_many(frame, [([0, 1], counts), full])

    def test_what_has_no_group_counts_no_rows(self):
        frame = (3, 3, 3, 2)
        sixty = [flat(frame, group, 5) for group in ((0, 1, 2, 3), (0,), (1,))]
        nine = (1,) * 9
        for bad in ([(0, 1), nine], ((0, 1), nine, ()), ((0, 1),), ((1, 0), nine), ((0, 4), nine), ((0, True), nine)):
            self.refuse_at(frame, sixty + [bad], 3)
            self.refuse_at(frame, [bad] + sixty, 0)

    def test_each_table_that_is_none_at_each_place(self):
        for bad in BAD:
            for at in range(len(TABLES) + 1):
                self.refuse_at(FRAME, TABLES[:at] + [bad] + TABLES[at:], at)

    def test_the_first_table_that_is_none(self):
        for one, other in itertools.product(BAD + UNLIKE, repeat=2):
            self.refuse_at(FRAME, TABLES[:1] + [one] + TABLES[1:2] + [other], 1)

    def test_wholes_unlike_the_first(self):
        for table in UNLIKE:
            for at in range(1, len(TABLES) + 1):
                self.refuse_at(FRAME, TABLES[:at] + [table] + TABLES[at:], at)
            self.refuse_at(FRAME, [table] + TABLES, 1)

    def test_wholes_at_the_edges(self):
        for total in (1, MOST):
            family = family_of((2,), [((0,), (0, total)), ((0,), (total, 0))])
            self.assertEqual(whole(family), total)
        split = ((0,), (MOST - 1, 1))
        self.assertEqual(family_of((2,), [split]), ((2,), (split,)))
        for counts in ((0, 0), (0, MOST + 1), (MOST, 1), (BIG, 0)):
            self.refuse_at((2,), [((0,), counts), ((0,), counts)], 0)
            self.refuse_at((2,), [((0,), (0, MOST)), ((0,), counts)], 1)

    def test_no_tables(self):
        self.refuse_at(FRAME, [], 0)
        self.refuse_at([2], [], 0)

    def test_a_mark_in_no_group(self):
        self.refuse_at(FRAME, TABLES[:1], 1)
        self.refuse_at(FRAME, [TABLES[0], TABLES[3]], 2)
        self.refuse_at(FRAME, [TABLES[1], TABLES[2]], 2)
        self.refuse_at((2, 2, 2), [flat((2, 2, 2), (0, 2), 1)] * 8, 8)

    def test_a_table_that_is_none_ahead_of_a_mark_in_no_group(self):
        for bad in BAD + UNLIKE:
            self.refuse_at(FRAME, [TABLES[2], bad, TABLES[2]], 1)

    def test_too_many_ahead_of_a_mark_in_no_group(self):
        self.refuse_many(FRAME, [TABLES[2]] * 9)
        self.refuse_many((3, 3, 3, 2), [flat((3, 3, 3, 2), (0, 1, 2), 1)] * 3)

    def test_whole_and_groups(self):
        family = family_of(FRAME, TABLES)
        self.assertEqual(whole(family), 6)
        groups = groups_of(family)
        self.assertIs(type(groups), list)
        self.assertEqual(groups, [(0, 1), (1, 2), (2,), (0, 1)])
        groups.clear()
        self.assertEqual(groups_of(family), [(0, 1), (1, 2), (2,), (0, 1)])


def parts_of(group):
    return [part for size in range(len(group) + 1) for part in itertools.combinations(group, size)]


def some_families():
    """Families cut out of one table of all marks, as they are and with some counts moved to other rows."""
    source = random.Random(7)
    for frame in ((2,), (2, 3), (3, 2, 2), (2, 2, 2, 3), (2, 2, 2, 2, 2)):
        marks = tuple(range(len(frame)))
        every = len(rows_of(frame, marks))
        for round_number in range(60):
            numbers = [source.randrange(4) for row in range(every)]
            numbers[0] += 1
            groups = [tuple(sorted(source.sample(marks, source.randint(1, min(3, len(marks)))))) for k in range(3)]
            missing = tuple(mark for mark in marks if all(mark not in group for group in groups))
            tables = [cut(frame, group, numbers) for group in groups + [missing] * bool(missing)]
            if round_number % 3:
                at = source.randrange(len(tables))
                tables[at] = (tables[at][0], tuple(reversed(tables[at][1])))
            yield family_of(frame, tables)


class AgreeTest(unittest.TestCase):
    def test_sums_by_hand(self):
        table = ((0, 2), (1, 2, 3, 4, 5, 6))
        self.assertEqual(sums(FRAME, table, ()), [21])
        self.assertEqual(sums(FRAME, table, (0,)), [6, 15])
        self.assertEqual(sums(FRAME, table, (2,)), [5, 7, 9])
        self.assertEqual(sums(FRAME, table, (0, 2)), [1, 2, 3, 4, 5, 6])

    def test_sums_on_each_part(self):
        for frame, tables in some_families():
            for table in tables:
                for part in parts_of(table[0]):
                    told = sums(frame, table, part)
                    self.assertIs(type(told), list)
                    self.assertEqual(told, slow_sums(frame, table, part))

    def test_sums_told_are_the_askers_own(self):
        table = ((0, 2), (1, 2, 3, 4, 5, 6))
        sums(FRAME, table, (0,)).clear()
        sums(FRAME, table, (0, 2))[0] = 9
        self.assertEqual(sums(FRAME, table, (0,)), [6, 15])
        self.assertEqual(sums(FRAME, table, (0, 2)), [1, 2, 3, 4, 5, 6])

    def test_sums_of_great_counts(self):
        table = ((0, 1), (MOST - 3, 1, 1, 1))
        self.assertEqual(sums((2, 2), table, (1,)), [MOST - 2, 2])

    def test_agree_by_hand(self):
        self.assertIsNone(agree(family_of(FRAME, TABLES[:2])))
        self.assertIsNone(agree(family_of((2,), [((0,), (1, 1))])))
        self.assertEqual(agree(family_of(FRAME, TABLES)), (0, 3, (0, 0)))
        self.assertEqual(agree(family_of(FRAME, TABLES[:2] + [((2,), (3, 1, 2))])), (1, 2, (1,)))

    def test_without_overlap_all_agree(self):
        self.assertIsNone(agree(family_of((2, 3), [((0,), (5, 0)), ((1,), (0, 1, 4))])))

    def test_first_by_i_then_j(self):
        one, other, third = ((0,), (1, 2)), ((0,), (2, 1)), ((0,), (3, 0))
        self.assertEqual(agree(family_of((2,), [one, one, other, third])), (0, 2, (0,)))
        tables = [((0,), (1, 2)), ((1,), (1, 2)), ((1,), (2, 1)), ((0,), (2, 1))]
        self.assertEqual(agree(family_of((2, 2), tables)), (0, 3, (0,)))

    def test_first_row_that_is_unlike(self):
        tables = [((0, 1), (1, 1, 1, 1, 1, 1)), ((0, 1), (1, 1, 1, 0, 2, 1))]
        self.assertEqual(agree(family_of((2, 3), tables)), (0, 1, (1, 0)))

    def test_overlap_is_a_part_of_both(self):
        tables = [((0, 1, 2), (1, 0, 0, 1, 1, 0, 0, 1)), ((1, 2, 3), (2, 0, 0, 0, 0, 0, 1, 1))]
        self.assertIsNone(agree(family_of((2,) * 4, tables)))
        tables[1] = ((1, 2, 3), (2, 0, 0, 0, 1, 0, 1, 0))
        self.assertEqual(agree(family_of((2,) * 4, tables)), (0, 1, (1, 0)))

    def test_agree_of_many_families(self):
        told = []
        for family in some_families():
            told.append(agree(family))
            self.assertEqual(told[-1], slow_agree(family), family)
        self.assertGreater(told.count(None), 50)
        self.assertGreater(len(told) - told.count(None), 50)

    def test_asking_changes_nothing(self):
        family = family_of(FRAME, TABLES)
        for times in range(2):
            self.assertEqual(agree(family), (0, 3, (0, 0)))
            self.assertEqual(family, (FRAME, tuple(TABLES)))


if __name__ == "__main__":
    unittest.main()
