"""Points 2, 4 and 5: frames, groups and rows."""

import itertools
import math
import unittest

from gluedtables.errors import NoFrame
from gluedtables.frames import all_rows, frame_of, is_group, rows_of, seen

TUPLES = [kinds for size in range(1, 7) for kinds in itertools.product((2, 3), repeat=size)]
FRAMES = [kinds for kinds in TUPLES if math.prod(kinds) <= 64]
SMALL = [kinds for kinds in FRAMES if len(kinds) <= 4]
BIG = 10 ** 59
NO_NUMBERS = [True, False, None, "", "2", "0", [], [2], (2,), {}, 2.0, 0.0]


def parts_of(group):
    """All parts of a group, the empty one and the whole group among them."""
    return [part for size in range(len(group) + 1) for part in itertools.combinations(group, size)]


def groups_in(frame):
    return parts_of(range(len(frame)))[1:]


class FrameTest(unittest.TestCase):
    def refuse(self, thing):
        with self.assertRaises(NoFrame, msg=repr(thing)):
            frame_of(thing)

    def test_frames_of_lists_and_tuples(self):
        self.assertIn((2, 2, 2, 2, 2, 2), FRAMES)
        self.assertIn((3, 3, 3, 2), FRAMES)
        for kinds in FRAMES:
            for thing in (kinds, list(kinds)):
                frame = frame_of(thing)
                self.assertEqual(frame, kinds)
                self.assertIs(type(frame), tuple)

    def test_product_beyond_64(self):
        beyond = [kinds for kinds in TUPLES if math.prod(kinds) > 64]
        self.assertIn((3, 3, 2, 2, 2), beyond)
        self.assertIn((3, 2, 2, 2, 2, 2), beyond)
        for kinds in beyond:
            self.refuse(kinds)
            self.refuse(list(kinds))

    def test_number_of_marks(self):
        for thing in ([], (), [2] * 7, (2,) * 7, [2] * 100):
            self.refuse(thing)

    def test_numbers_of_kinds(self):
        for wrong in [-1, 0, 1, 4, 5, BIG, -BIG] + NO_NUMBERS:
            self.refuse([wrong])
            self.refuse((wrong,))
            for place in range(3):
                kinds = [2, 3, 2]
                kinds[place] = wrong
                self.refuse(kinds)
                self.refuse(tuple(kinds))

    def test_no_list_and_no_tuple(self):
        for thing in (None, True, False, 0, 2, 3, BIG, "", "2", "22", "2 3", {2: 3}, {2, 3}, range(2, 4), b"\x02", 2.0):
            self.refuse(thing)
        self.refuse(object())
        self.refuse([[2, 3]])
        self.refuse(((2, 3),))

    def test_list_handed_in_stays_apart(self):
        kinds = [2, 3]
        frame = frame_of(kinds)
        self.assertEqual(kinds, [2, 3])
        kinds[0] = 3
        kinds.append(2)
        self.assertEqual(frame, (2, 3))

    def test_refused_list_stays_as_it_was(self):
        kinds = [2, [3], 7]
        self.refuse(kinds)
        self.assertEqual(kinds, [2, [3], 7])


class GroupTest(unittest.TestCase):
    def test_groups_among_all_short_tuples(self):
        for frame in SMALL:
            groups = groups_in(frame)
            for size in range(6):
                for thing in itertools.product(range(-1, len(frame) + 1), repeat=size):
                    self.assertIs(is_group(frame, thing), thing in groups, (frame, thing))

    def test_groups_of_six_marks(self):
        frame = (2,) * 6
        for group in groups_in(frame):
            self.assertIs(is_group(frame, group), True)
        self.assertIs(is_group(frame, (0, 1, 2, 3, 4, 5, 6)), False)

    def test_things_that_are_none(self):
        frame = (2, 2, 3)
        for thing in (None, True, 0, 1, BIG, "", "0", "01", [], [0], [0, 1], {}, {0: 1}, {0}, range(2), 0.0):
            self.assertIs(is_group(frame, thing), False, repr(thing))

    def test_marks_that_are_none(self):
        frame = (2, 2, 3)
        wrong = [-1, -3, 3, BIG, -BIG] + NO_NUMBERS + [(), (0,), [1]]
        for mark in wrong:
            for thing in ((mark,), (mark, 1), (0, mark), (0, mark, 2), (0, 1, mark)):
                self.assertIs(is_group(frame, thing), False, repr(thing))


class RowsTest(unittest.TestCase):
    def test_rows_of_each_group(self):
        for frame in FRAMES:
            for group in groups_in(frame):
                rows = rows_of(frame, group)
                self.assertIs(type(rows), list)
                self.assertEqual(rows, list(itertools.product(*[range(frame[mark]) for mark in group])))
                self.assertEqual(rows, sorted(set(rows)))
                self.assertEqual(len(rows), math.prod(frame[mark] for mark in group))

    def test_rows_by_hand(self):
        self.assertEqual(rows_of((2, 2, 3), (0, 2)), [(0, 0), (0, 1), (0, 2), (1, 0), (1, 1), (1, 2)])
        self.assertEqual(rows_of((3, 2), (0,)), [(0,), (1,), (2,)])

    def test_all_rows(self):
        for frame in FRAMES:
            rows = all_rows(frame)
            self.assertIs(type(rows), list)
            self.assertEqual(rows, list(itertools.product(*[range(number) for number in frame])))
        self.assertEqual(all_rows((2, 3)), [(0, 0), (0, 1), (0, 2), (1, 0), (1, 1), (1, 2)])

    def test_rows_told_are_the_askers_own(self):
        rows_of((2, 3), (1,)).clear()
        all_rows((2, 3)).append("more")
        self.assertEqual(rows_of((2, 3), (1,)), [(0,), (1,), (2,)])
        self.assertEqual(len(all_rows((2, 3))), 6)

    def test_seen_on_each_part(self):
        for frame in SMALL:
            for group in groups_in(frame):
                for row in rows_of(frame, group):
                    kinds = dict(zip(group, row))
                    for part in parts_of(group):
                        told = seen(group, row, part)
                        self.assertEqual(told, tuple(kinds[mark] for mark in part))
                        self.assertIs(type(told), tuple)

    def test_seen_by_hand(self):
        group = (1, 3, 4)
        row = (1, 0, 2)
        self.assertEqual(seen(group, row, ()), ())
        self.assertEqual(seen(group, row, (3,)), (0,))
        self.assertEqual(seen(group, row, (1, 4)), (1, 2))
        self.assertEqual(seen(group, row, group), row)


if __name__ == "__main__":
    unittest.main()
