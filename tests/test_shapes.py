"""Points 2, 3, 8, 9 and 10: trees, rings, knots, and shapes that are shown."""

import copy
import itertools
import random
import unittest

from gluedtables.shapes import is_shown, shape
from samples import (
    groups_on, keepers, knot_of, ring_of, rings_and_knots, slow_knot, slow_pairs, slow_ring, some_lists, some_trees,
)

BIG = 10 ** 59


class TreeTest(unittest.TestCase):
    def check(self, groups, pairs):
        self.assertEqual(shape(groups), ("tree", pairs), groups)

    def test_one_group(self):
        for group in groups_on(range(6)):
            self.check([group], [])

    def test_kinds_of_what_is_told(self):
        told = shape([(0, 1), (1, 2), (2,)])
        self.assertEqual([type(told), type(told[1])], [tuple, list])
        self.assertEqual({type(pair) for pair in told[1]}, {tuple})

    def test_alike(self):
        self.check([(0, 1), (0, 1)], [(0, 1)])
        self.check([(2, 4)] * 8, [(k, k + 1) for k in range(7)])

    def test_within_one_another(self):
        self.check([(0, 1), (0,)], [(0, 1)])
        self.check([(0,), (0, 1)], [(0, 1)])
        self.check([(0, 1, 2), (0, 1), (1, 2)], [(1, 0), (0, 2)])
        self.check([(0, 1, 2), (0, 1), (0,)], [(0, 1), (1, 2)])
        self.check([(0, 1, 2), (0,), (1,), (2,)], [(1, 0), (2, 0), (0, 3)])

    def test_without_marks_in_common(self):
        self.check([(0,), (1,)], [(0, 1)])
        self.check([(5,), (3,), (1,), (0, 2)], [(0, 1), (1, 2), (2, 3)])
        self.check([(0, 1), (2, 3), (1,)], [(0, 2), (1, 2)])

    def test_a_path_and_a_star(self):
        self.check([(0, 1), (1, 2), (2, 3)], [(0, 1), (1, 2)])
        self.check([(1, 2), (0, 1), (2, 3)], [(1, 0), (0, 2)])
        self.check([(0, 5), (1, 5), (2, 5), (3, 5)], [(0, 1), (1, 2), (2, 3)])

    def test_the_first_group_is_not_always_the_next(self):
        self.check([(1, 2, 3), (0, 1), (3, 4), (2, 3)], [(1, 0), (0, 3), (2, 3)])
        self.check([(2, 3), (1, 2), (3, 4), (0, 1)], [(2, 0), (0, 1), (1, 3)])

    def test_the_first_keeper_is_not_always_the_next(self):
        self.check([(0, 1, 2), (3, 4), (0, 1, 5), (3, 5)], [(0, 2), (1, 3), (2, 3)])
        self.check([(0, 1), (2, 3), (1, 4), (1, 3, 4)], [(0, 2), (1, 3), (2, 3)])

    def test_a_triangle_within_a_group(self):
        self.check([(0, 1), (1, 2), (0, 2), (0, 1, 2)], [(0, 3), (1, 3), (2, 3)])
        self.check(ring_of([0, 1, 2, 3, 4, 5]) + [(0, 1, 2, 3, 4, 5)], [(k, 6) for k in range(6)])

    def test_all_lists_of_up_to_three_groups_of_four_marks(self):
        for size in (1, 2, 3):
            for groups in itertools.product(groups_on(range(4)), repeat=size):
                pairs, left = slow_pairs(groups)
                told = shape(list(groups))
                self.assertEqual(told[0] == "tree", left == 1, groups)
                if left == 1:
                    self.assertEqual(told[1], pairs, groups)

    def test_many_trees(self):
        sizes = set()
        for groups in some_trees(600, 1):
            pairs, left = slow_pairs(groups)
            self.assertEqual(left, 1)
            self.check(groups, pairs)
            sizes.add(len(groups))
        self.assertEqual(sizes, set(range(1, 9)))

    def test_many_lists(self):
        words = []
        for groups in some_lists(1500, 2):
            pairs, left = slow_pairs(groups)
            told = shape(groups)
            words.append(told[0])
            self.assertEqual(told[0] == "tree", left == 1, groups)
            if left == 1:
                self.assertEqual(told[1], pairs, groups)
        for word in ("tree", "ring", "knot"):
            self.assertGreater(words.count(word), 20, word)

    def test_a_tree_has_no_ring_and_no_knot(self):
        for groups in some_trees(150, 3):
            self.assertEqual(rings_and_knots(groups), [])
            self.assertEqual(shape(groups)[0], "tree")

    def test_somewhat_beyond_the_bounds(self):
        self.check([(0, 1)] * 9, [(k, k + 1) for k in range(8)])
        self.check([(k, k + 1) for k in range(11)], [(k, k + 1) for k in range(10)])
        told = shape(ring_of(list(range(10))))
        self.assertEqual(told[0], "ring")
        self.assertTrue(slow_ring(ring_of(list(range(10))), told[1]))
        self.assertEqual(shape(knot_of(list(range(9))))[0], "knot")


class NoTreeTest(unittest.TestCase):
    def check(self, groups):
        """Looks at a shape that is no tree by itself, and gives its word and its marks."""
        told = shape(groups)
        self.assertIn(told[0], ("ring", "knot"), groups)
        self.assertEqual([type(told), type(told[1])], [tuple, list])
        self.assertEqual({type(mark) for mark in told[1]}, {int})
        is_one = slow_ring if told[0] == "ring" else slow_knot
        self.assertTrue(is_one(groups, told[1]), (groups, told))
        return told[0], sorted(told[1])

    def test_rings_with_marks_and_groups_in_each_order(self):
        source = random.Random(4)
        for size in (4, 5, 6):
            for some in itertools.combinations(range(6), size):
                for rest in itertools.permutations(some[1:]):
                    groups = ring_of([some[0], *rest])
                    source.shuffle(groups)
                    self.assertEqual(self.check(groups), ("ring", list(some)))

    def test_knots_with_marks_and_groups_in_other_orders(self):
        source = random.Random(5)
        for size in (3, 4, 5, 6):
            for marks in itertools.combinations(range(6), size):
                for round_number in range(6):
                    groups = knot_of(marks)
                    source.shuffle(groups)
                    self.assertEqual(self.check(groups), ("knot", list(marks)))

    def test_rings_beside_other_groups(self):
        four = ring_of([0, 2, 1, 3])
        for more in ([(4,)], [(4, 5)], [(0, 4)], [(0, 2, 4), (4, 5)], [(0,), (1,), (3,)], four, [(0, 2, 4), (1, 2, 5)]):
            for groups in (four + more, more + four, more[:1] + four[::-1] + more[1:]):
                self.assertEqual(self.check(groups), ("ring", [0, 1, 2, 3]))

    def test_knots_beside_other_groups(self):
        three = knot_of([1, 3, 5])
        for more in ([(0,)], [(0, 2)], [(0, 1)], [(0, 1, 3), (2, 4)], [(1,), (3,)], three, [(0, 1, 5)]):
            for groups in (three + more, more + three, more[:1] + three[::-1] + more[1:]):
                self.assertEqual(self.check(groups), ("knot", [1, 3, 5]))

    def test_rings_of_greater_groups(self):
        self.assertEqual(self.check([(0, 1, 4), (1, 2, 5), (2, 3), (0, 3)]), ("ring", [0, 1, 2, 3]))
        self.assertEqual(self.check([(0, 1, 2), (2, 3, 4), (0, 4, 5)])[0], "knot")
        self.check([(0, 1, 2), (0, 1, 3), (2, 4), (3, 4)])
        self.check([(0, 1, 2), (0, 1, 3), (2, 3)])
        self.check([(0, 1), (1, 2), (2, 3), (0, 3), (0, 2)])

    def test_all_lists_of_three_groups_of_four_marks(self):
        for groups in itertools.combinations_with_replacement(groups_on(range(4)), 3):
            if rings_and_knots(groups):
                self.check(list(groups))
            else:
                self.assertEqual(shape(list(groups))[0], "tree", groups)

    def test_many_lists(self):
        sizes = set()
        for groups in some_lists(1500, 6):
            if slow_pairs(groups)[1] > 1:
                word, marks = self.check(groups)
                sizes.add((word, len(marks)))
        self.assertLessEqual({("ring", 4), ("ring", 5), ("knot", 3), ("knot", 4)}, sizes)

    def test_just_where_there_is_a_ring_or_a_knot(self):
        for groups in some_lists(250, 7):
            self.assertEqual(shape(groups)[0] == "tree", rings_and_knots(groups) == [], groups)


def other_trees(groups, source):
    """A tree's groups taken off in a mixed order with mixed keepers."""
    left = list(range(len(groups)))
    pairs = []
    while len(left) > 1:
        able = [(number, keeper) for number in left for keeper in keepers(groups, left, number)]
        pairs.append(source.choice(able))
        left.remove(pairs[-1][0])
    return pairs


def slow_shown(groups, told):
    """Whether a shape is shown, by the words of point 10."""
    word, things = told
    if word == "tree":
        left = list(range(len(groups)))
        for pair in things:
            if type(pair) is not tuple or len(pair) != 2:
                return False
            if pair[0] not in left or pair[1] not in keepers(groups, left, pair[0]):
                return False
            left.remove(pair[0])
        return len(left) == 1
    if any(type(thing) is not int for thing in things):
        return False
    return {"ring": slow_ring, "knot": slow_knot}.get(word, lambda *both: False)(groups, things)


def changed(things, others):
    """The lists with one thing left out, put in, put in the place of one, or two exchanged."""
    for place in range(len(things)):
        yield things[:place] + things[place + 1:]
        for other in others:
            yield things[:place] + [other] + things[place + 1:]
        for second in range(place):
            mixed = list(things)
            mixed[place], mixed[second] = mixed[second], mixed[place]
            yield mixed
    for place in range(len(things) + 1):
        for other in others:
            yield things[:place] + [other] + things[place:]


class ShownTest(unittest.TestCase):
    def check(self, groups, told, answer):
        kept = copy.deepcopy((groups, told))
        self.assertIs(is_shown(groups, told), answer, (groups, told))
        self.assertEqual((groups, told), kept)

    def test_each_shape_told(self):
        for groups in itertools.chain(some_trees(300, 8), some_lists(600, 9)):
            self.check(groups, shape(groups), True)

    def test_trees_in_other_orders_with_other_keepers(self):
        source = random.Random(10)
        for groups in some_trees(300, 11):
            for round_number in range(4):
                self.check(groups, ("tree", other_trees(groups, source)), True)
        self.check([(0, 1), (1, 2), (1, 3)], ("tree", [(2, 0), (1, 0)]), True)
        self.check([(0,), (1,), (2,)], ("tree", [(1, 2), (2, 0)]), True)

    def test_rings_and_knots_turned_about(self):
        for groups in itertools.chain(some_lists(120, 12), [ring_of([3, 0, 5, 1, 4, 2]), knot_of(range(6))]):
            for word, marks in rings_and_knots(groups):
                for turn in range(len(marks)):
                    turned = marks[turn:] + marks[:turn]
                    self.check(groups, (word, turned), True)
                    self.check(groups, (word, turned[::-1]), True)

    def test_knots_in_each_order(self):
        for marks in itertools.permutations(range(1, 5)):
            self.check(knot_of(marks), ("knot", list(marks)), True)

    def test_rings_in_other_orders(self):
        for marks in itertools.permutations(range(4)):
            self.check(ring_of([0, 1, 2, 3]), ("ring", list(marks)), (marks[0] - marks[2]) % 4 == 2)

    def test_one_group(self):
        self.check([(0, 1)], ("tree", []), True)
        for pairs in ([(0, 0)], [(0, 1)], [(1, 0)], [(0, -1)], [(-1, 0)], [(-1, -1)]):
            self.check([(0, 1)], ("tree", pairs), False)

    def test_pairs_left_over_or_too_few(self):
        groups = [(0, 1), (1, 2), (2, 3)]
        pairs = [(0, 1), (1, 2)]
        self.check(groups, ("tree", pairs), True)
        for some in ([], pairs[:1], pairs[1:], pairs + [(2, 2)], pairs + [(2, 1)], pairs + [(2, 0)], pairs * 2):
            self.check(groups, ("tree", some), False)

    def test_keepers_that_are_none(self):
        groups = [(0, 1), (1, 2), (2, 3)]
        for pairs in ([(0, 2), (1, 2)], [(1, 0), (0, 2)], [(0, 0), (1, 2)], [(0, 1), (2, 0)], [(0, 1), (0, 2)]):
            self.check(groups, ("tree", pairs), False)
        self.check([(0, 1), (1, 2), (0, 2)], ("tree", [(0, 1), (1, 2)]), False)

    def test_numbers_that_are_none(self):
        groups = [(0, 1), (1, 2), (2, 3)]
        for wrong in (-1, -2, -3, 3, 4, BIG, -BIG):
            for pairs in ([(wrong, 1), (1, 2)], [(0, wrong), (1, 2)], [(0, 1), (wrong, 2)], [(0, 1), (1, wrong)]):
                self.check(groups, ("tree", pairs), False)
        for wrong in (-1, -4, 4, 6, BIG, -BIG):
            for place in range(4):
                marks = [0, 1, 2, 3]
                marks[place] = wrong
                self.check(ring_of([0, 1, 2, 3]), ("ring", marks), False)
                self.check(knot_of([0, 1, 2, 3]), ("knot", marks), False)

    def test_truths_are_no_numbers(self):
        self.check([(0, 1), (1, 2)], ("tree", [(0, True)]), False)
        self.check([(0, 1), (1, 2)], ("tree", [(False, 1)]), False)
        self.check(ring_of([0, 1, 2, 3]), ("ring", [0, True, 2, 3]), False)
        self.check(knot_of([0, 1, 2]), ("knot", [False, 1, 2]), False)

    def test_other_words(self):
        samples = ([(0, 1), (1, 2)], ring_of([0, 1, 2, 3]), knot_of([0, 1, 2]), [(0,)])
        for groups in samples:
            for word in ("", "Tree", "trees", "tree ", "Ring", "rings", "knots", "KNOT", "none", "star", "glued"):
                self.check(groups, (word, shape(groups)[1]), False)
                self.check(groups, (word, []), False)

    def test_words_that_do_not_go_with_their_lists(self):
        samples = ([(0, 1), (1, 2)], [(0, 1), (1, 2), (2, 3), (3, 4)], ring_of([0, 1, 2, 3]), knot_of([0, 1, 2, 3]))
        for groups in samples:
            told = shape(groups)
            for word in ("tree", "ring", "knot"):
                self.check(groups, (word, told[1]), word == told[0])
                self.check(groups, (word, []), False)
        self.check(knot_of([0, 1, 2]), ("ring", [0, 1, 2]), False)
        self.check(ring_of([0, 1, 2, 3]), ("knot", [0, 1, 2]), False)
        self.check([(0, 1)], ("knot", [0, 1]), False)
        self.check([(0,), (1,)], ("knot", [0, 1]), False)

    def test_other_lengths(self):
        groups = [(0, 1), (1, 2)]
        for pairs in ([()], [(0,)], [(0, 1, 0)], [(0, 1, 1)], [0], [1, 0], [0, 1]):
            self.check(groups, ("tree", pairs), False)
        self.check(groups, ("tree",), False)
        self.check(groups, ("tree", [(0, 1)], []), False)
        self.check(groups, (), False)

    def test_marks_twice(self):
        for marks in ([0, 1, 0, 1], [0, 1, 2, 3, 3], [0, 1, 2, 3, 0], [0, 1, 2, 3] * 2, [0, 0, 0, 0]):
            self.check(ring_of([0, 1, 2, 3]), ("ring", marks), False)
        for marks in ([0, 1, 2, 2], [0, 0, 1, 2], [0, 1, 2, 0, 1, 2], [0, 0, 0]):
            self.check(knot_of([0, 1, 2]), ("knot", marks), False)

    def test_together_where_they_may_not_be(self):
        ring = ring_of([0, 1, 2, 3])
        self.check(ring + [(0, 2)], ("ring", [0, 1, 2, 3]), False)
        self.check(ring + [(1, 3, 4)], ("ring", [0, 1, 2, 3]), False)
        self.check(ring[1:], ("ring", [0, 1, 2, 3]), False)
        self.check(ring[:3], ("ring", [0, 1, 2, 3]), False)
        self.check(knot_of([0, 1, 2]) + [(0, 1, 2, 3)], ("knot", [0, 1, 2]), False)
        self.check(knot_of([0, 1, 2, 3])[1:], ("knot", [0, 1, 2, 3]), False)
        self.check([(0, 1), (0, 2), (0, 3), (1, 2), (1, 3), (2, 3)], ("knot", [0, 1, 2, 3]), False)

    def test_long_lists(self):
        self.check(ring_of([0, 1, 2, 3]), ("ring", list(range(100))), False)
        self.check(knot_of([0, 1, 2]), ("knot", list(range(100))), False)
        self.check([(0,), (0,)], ("tree", [(0, 1)] * 100), False)

    def test_lists_with_one_thing_changed(self):
        answers = []
        for groups in itertools.chain(some_trees(60, 13), some_lists(120, 14)):
            word, things = shape(groups)
            numbers = range(-1, len(groups) + 1)
            others = list(itertools.product(numbers, repeat=2)) if word == "tree" else list(range(-1, 8))
            for list_changed in changed(things, others):
                told = (word, list_changed)
                answers.append(slow_shown(groups, told))
                self.assertIs(is_shown(groups, told), answers[-1], (groups, told))
        self.assertGreater(answers.count(True), 500)
        self.assertGreater(answers.count(False), 5000)


class OwnTest(unittest.TestCase):
    def test_what_is_handed_in_stays(self):
        for groups in itertools.chain(some_trees(50, 15), some_lists(100, 16)):
            kept = list(groups)
            shape(groups)
            self.assertEqual(groups, kept)

    def test_what_is_told_is_the_askers_own(self):
        for groups in itertools.chain(some_trees(50, 17), some_lists(100, 18)):
            first = shape(groups)
            kept = copy.deepcopy(first)
            first[1].append(7)
            first[1].reverse()
            self.assertEqual(shape(groups), kept)
            self.assertTrue(is_shown(groups, kept))
            told = shape(groups)
            groups.clear()
            self.assertEqual(told, kept)


if __name__ == "__main__":
    unittest.main()
