"""Points 2, 3 and 15: families that are glued or never are, bets, and what is told of them."""

import copy
import itertools
import random
import unittest

from gluedtables.glue import glued, is_bet, is_told
from gluedtables.parts import share
from gluedtables.products import is_glued
from gluedtables.tables import family_of
from samples import (
    any_families, families_over, mixed_families, product_rows, slow_agree, slow_bet, slow_glued, slow_rows, slow_worth,
    some_lists, some_trees, spoiled, wide_families,
)

BIG = 10 ** 59
WORDS = ("", " ", "Glued", "GLUED", "glued ", "glue", "Never", "never ", "nevermore", "tree", "part", "gluednever")
SMALL = family_of((2, 2), [((0,), (1, 2)), ((1,), (2, 1))])
UNLIKE = family_of((2,), [((0,), (1, 2)), ((0,), (2, 1))])
TWICE = family_of((2,), [((0,), (1, 2)), ((0,), (1, 2))])
RING = family_of((2,) * 4, [
    ((0, 1), (1, 0, 0, 1)), ((1, 2), (1, 0, 0, 1)), ((2, 3), (1, 0, 0, 1)), ((0, 3), (0, 1, 1, 0)),
])
# Each two side by side unlike, or the last and the first the same: one of these is so on each row.
RING_BET = [[-1, 0, 0, -1], [0, 1, 1, 0], [0, 1, 1, 0], [1, 0, 0, 1]]


def some_bet(family, source):
    """Lists of small numbers, raised on the first table so that they come to 0 at least, or now and then not quite."""
    bet = [[source.randint(-2, 2) for count in counts] for group, counts in family[1]]
    least = min(slow_rows(family, bet)) + source.choice((0, 0, 0, 1))
    bet[0] = [number - least for number in bet[0]]
    return bet


class BetTest(unittest.TestCase):
    def check(self, family, bet, answer):
        kept = copy.deepcopy((family, bet))
        self.assertIs(is_bet(family, bet), answer, (family, bet))
        self.assertIs(is_told(family, ("never", bet)), answer, (family, bet))
        self.assertEqual((family, bet), kept)

    def test_by_hand(self):
        self.check(UNLIKE, [[1, 0], [-1, 0]], True)
        self.check(UNLIKE, [[0, -1], [0, 1]], True)
        self.check(UNLIKE, [[5, 0], [-4, 0]], True)
        self.check(UNLIKE, [[BIG, 0], [-BIG, 0]], True)
        self.check(UNLIKE, [[-1, 0], [1, 0]], False)
        self.check(RING, RING_BET, True)
        self.check(RING, [[7 * number for number in numbers] for numbers in RING_BET], True)

    def test_that_comes_to_0_with_the_counts(self):
        self.check(UNLIKE, [[0, 0], [0, 0]], False)
        self.check(UNLIKE, [[2, 0], [-1, 0]], False)
        self.check(UNLIKE, [[2 * BIG, 0], [-BIG, 0]], False)
        self.check(UNLIKE, [[3, 3], [-3, -3]], False)
        self.check(RING, [[1, 1, 1, 1], [-1, -1, -1, -1], [0, 0, 0, 0], [0, 0, 0, 0]], False)
        self.check(RING, [[0, 1, 1, 0], [0, 1, 1, 0], [0, 1, 1, 0], [1, 0, 0, 1]], False)
        self.check(SMALL, [[0, 0], [0, 0]], False)

    def test_above_0_with_the_counts(self):
        self.check(UNLIKE, [[1, 1], [0, 0]], False)
        self.check(UNLIKE, [[0, 1], [0, -1]], False)
        self.check(SMALL, [[1, 0], [0, 1]], False)

    def test_below_0_on_a_row(self):
        self.check(UNLIKE, [[0, 0], [-1, 0]], False)
        self.check(UNLIKE, [[0, -1], [0, 0]], False)
        self.check(UNLIKE, [[BIG, 0], [-BIG - 1, 0]], False)
        self.check(SMALL, [[-1, -1], [0, 0]], False)
        for at, place in itertools.product(range(4), range(4)):
            bet = copy.deepcopy(RING_BET)
            bet[at][place] -= 1
            self.check(RING, bet, False)

    def test_other_lengths(self):
        right = [[1, 0], [-1, 0]]
        self.check(UNLIKE, right, True)
        for bet in ([], [[1, 0]], [[1], [-1]], [[1, 0], [-1]], [[1], [-1, 0]], [[1, 0, 0], [-1, 0]],
                    [[1, 0], [-1, 0, 0]], [[1, 0], [-1, 0], []], [[1, 0], [-1, 0], [0, 0]], [[], [1, 0], [-1, 0]], [[1, 0], []], [[], []],
                    [[1, 0, -1, 0]], [[1] + [0] * 99, [-1, 0]], [[1, 0]] + [[-1, 0]] * 99):
            self.check(UNLIKE, bet, False)
        for at in range(4):
            for numbers in (RING_BET[at] + [0], RING_BET[at] + [-1], RING_BET[at][:-1], []):
                self.check(RING, [*RING_BET[:at], numbers, *RING_BET[at + 1:]], False)
            self.check(RING, RING_BET[:at] + RING_BET[at + 1:], False)
            self.check(RING, [*RING_BET[:at], [0] * 4, *RING_BET[at:]], False)

    def test_truths_are_no_numbers(self):
        self.check(UNLIKE, [[True, 0], [-1, 0]], False)
        self.check(UNLIKE, [[1, 0], [-1, False]], False)

    def test_all_small_numbers(self):
        for family, known in ((UNLIKE, True), (TWICE, False)):
            found = 0
            for numbers in itertools.product(range(-3, 4), repeat=4):
                bet = [list(numbers[:2]), list(numbers[2:])]
                answer = slow_bet(family, bet)
                found += answer
                self.assertIs(is_bet(family, bet), answer, (family, bet))
            self.assertEqual(found > 20, known)

    def test_many(self):
        source = random.Random(1)
        answers = []
        for family in mixed_families(60, 2):
            word, thing = glued(family)
            for many in (0, 9, 99):
                bet = some_bet(family, source)
                if word == "never":
                    bet = [[a + many * b for a, b in zip(one, other)] for one, other in zip(bet, thing)]
                answers.append(slow_bet(family, bet))
                self.check(family, bet, answers[-1])
        self.assertGreater(answers.count(True), 50)
        self.assertGreater(answers.count(False), 50)


class GluedTest(unittest.TestCase):
    def check(self, family):
        """Walks what is told of a family, and gives its word."""
        kept = copy.deepcopy(family)
        told = glued(family)
        self.assertEqual([type(told), len(told)], [tuple, 2])
        word, thing = told
        if word == "glued":
            self.assertEqual([type(each) for each in (thing, *thing)], [tuple, list, int])
            self.assertTrue(slow_glued(family, *thing), (family, told))
            self.assertIs(is_glued(family, thing), True, (family, told))
        else:
            self.assertEqual(word, "never")
            self.assertEqual([type(thing)] + [type(numbers) for numbers in thing], [list] * (1 + len(family[1])))
            self.assertTrue(slow_bet(family, thing), (family, told))
            self.assertIs(is_bet(family, thing), True, (family, told))
        self.assertEqual(word == "glued", share(family) == (1, 1), (family, told))
        self.assertIs(is_told(family, told), True)
        self.assertEqual(family, kept)
        return word

    def test_by_hand(self):
        self.assertEqual(self.check(SMALL), "glued")
        self.assertEqual(self.check(TWICE), "glued")
        self.assertEqual(glued(TWICE)[1][0], [glued(TWICE)[1][1], 2 * glued(TWICE)[1][1]])
        self.assertEqual(self.check(UNLIKE), "never")
        self.assertEqual(self.check(RING), "never")

    def test_a_ring_among_other_things(self):
        # A ring of four is glued as soon as half of the things have any kinds: 40 by the ring, 4 times 10 by chance.
        for extra, word in ((0, "never"), (9, "never"), (10, "glued"), (11, "glued"), (50, "glued")):
            tables = []
            for group, counts in RING[1]:
                tables.append((group, [extra + 20 * count for count in counts]))
            self.assertEqual(self.check(family_of((2,) * 4, tables)), word, extra)

    def test_many_families(self):
        words = [self.check(family) for family in mixed_families(150, 10)]
        self.assertGreater(words.count("glued"), 100)
        self.assertGreater(words.count("never"), 100)

    def test_at_the_greatest_sizes(self):
        words = [self.check(family) for family in wide_families(20)]
        self.assertEqual(words[1::3], ["glued"] * (len(words) // 3))
        self.assertIn("never", words)

    def test_never_both(self):
        source = random.Random(30)
        for family in mixed_families(40, 31):
            if glued(family)[0] == "glued":
                for round_number in range(5):
                    self.assertIs(is_bet(family, some_bet(family, source)), False)
            else:
                size = len(product_rows(family[0]))
                for round_number in range(5):
                    table = ([source.randrange(5) for k in range(size)], source.randint(1, 5))
                    self.assertIs(is_told(family, ("glued", table)), False)

    def test_never_where_two_tables_are_unlike(self):
        found = 0
        source = random.Random(40)
        for family in families_over(some_lists(100, 41), 42):
            other = spoiled(family, source)
            if slow_agree(other) is not None:
                found += 1
                self.assertEqual(self.check(other), "never")
        self.assertGreater(found, 30)

    def test_trees_that_agree_are_glued(self):
        source = random.Random(50)
        agreed = []
        for family in families_over(some_trees(300, 51), 52):
            self.assertEqual(self.check(family), "glued")
            other = spoiled(family, source)
            agreed.append(slow_agree(other) is None)
            self.assertEqual(self.check(other), "glued" if agreed[-1] else "never")
        self.assertGreater(agreed.count(True), 20)
        self.assertGreater(agreed.count(False), 20)

    def test_what_was_told_changed_afterwards(self):
        for family in (SMALL, UNLIKE, RING):
            told = glued(family)
            kept = copy.deepcopy(told)
            inner = told[1][0]
            inner.reverse()
            inner.append(1)
            if told[0] == "never":
                told[1].clear()
            self.assertEqual(glued(family), kept)
            self.assertIs(is_told(family, kept), True)
            self.assertIs(is_told(family, told), False)


class ToldTest(unittest.TestCase):
    def check(self, family, told, answer):
        kept = copy.deepcopy((family, told))
        self.assertIs(is_told(family, told), answer, (family, told))
        self.assertEqual((family, told), kept)

    def test_by_whoever_wrote_it(self):
        self.check(SMALL, ("glued", ([1, 0, 1, 1], 1)), True)
        self.check(SMALL, ("glued", ([0, 1, 2, 0], 1)), True)
        self.check(SMALL, ("glued", ([2 * BIG, BIG, 4 * BIG, 2 * BIG], 3 * BIG)), True)
        self.check(UNLIKE, ("never", [[9, 0], [-8, 0]]), True)
        self.check(UNLIKE, ("never", [[0, -8], [0, 9]]), True)
        self.check(RING, ("never", RING_BET), True)

    def test_what_is_not_so(self):
        self.check(SMALL, ("glued", ([1, 0, 1, 2], 1)), False)
        self.check(SMALL, ("glued", ([1, 0, 1, 1], 2)), False)
        self.check(SMALL, ("glued", ([0, 0, 0, 0], 0)), False)
        self.check(SMALL, ("glued", ([2, -1, 0, 2], 1)), False)
        self.check(SMALL, ("glued", ([0, 1, 2], 1)), False)
        self.check(SMALL, ("glued", ([0, 1, 2, 0, 0], 1)), False)
        self.check(SMALL, ("never", [[0, 0], [0, 0]]), False)
        self.check(SMALL, ("never", [[1, 0], [-1, 0]]), False)
        self.check(UNLIKE, ("glued", ([1, 1], 1)), False)
        self.check(UNLIKE, ("glued", ([1, 2], 1)), False)

    def test_other_words(self):
        for family in (SMALL, UNLIKE, RING):
            word, thing = glued(family)
            self.check(family, (word, thing), True)
            for other in WORDS:
                self.check(family, (other, thing), False)

    def test_words_that_do_not_go_with_their_things(self):
        for family in mixed_families(20, 60):
            word, thing = glued(family)
            self.check(family, ("never" if word == "glued" else "glued", thing), False)
        # A bet of two lists, and numbers with their times, are alike in their lengths.
        self.check(UNLIKE, ("glued", [[1, 0], [-1, 0]]), False)
        self.check(TWICE, ("never", ([1, 2], 1)), False)
        self.check(UNLIKE, ("never", ([1, 0], [-1, 0])), False)
        self.check(TWICE, ("glued", [[1, 2], 1]), False)

    def test_other_lengths(self):
        table = glued(SMALL)[1]
        self.check(SMALL, ("glued",), False)
        self.check(SMALL, ("glued", table, table), False)
        self.check(SMALL, (), False)
        self.check(SMALL, ("glued", (table[0],)), False)
        self.check(SMALL, ("glued", (table[0], 1, 1)), False)

    def test_told_of_another_family(self):
        source = random.Random(70)
        for family in families_over(some_lists(100, 71), 72):
            other = spoiled(family, source)
            for one, two in ((family, other), (other, family)):
                word, thing = glued(one)
                answer = slow_glued(two, *thing) if word == "glued" else slow_bet(two, thing)
                self.check(two, (word, thing), answer)

    def test_one_number_changed(self):
        for family in families_over(some_lists(15, 80), 81):
            numbers, times = glued(family)[1]
            for place in range(len(numbers)):
                for more in (-1, 1, times):
                    other = [*numbers[:place], numbers[place] + more, *numbers[place + 1:]]
                    self.check(family, ("glued", (other, times)), False)
        answers = []
        for family in any_families(some_lists(15, 82), 83):
            word, bet = glued(family)
            if word == "never":
                for at, place in [(at, place) for at, each in enumerate(bet) for place in range(len(each))]:
                    for more in (-1, 1, 10 ** 10):
                        other = copy.deepcopy(bet)
                        other[at][place] += more
                        answers.append(slow_worth(family, other) < 0 <= min(slow_rows(family, other)))
                        self.check(family, ("never", other), answers[-1])
        self.assertGreater(answers.count(True), 20)
        self.assertGreater(answers.count(False), 100)


if __name__ == "__main__":
    unittest.main()
