"""Points 2, 3, 17 and 18: what something can least and most count, told with a glued table and a bet."""

import copy
import itertools
import math
import random
import unittest
from fractions import Fraction

from gluedtables.errors import NoGlue
from gluedtables.happenings import is_bound, least, most
from gluedtables.products import product
from gluedtables.tables import family_of
from samples import (
    any_families, any_family, counts_of, families_over, is_form, mixed_families, product_rows, slow_bet, slow_glued,
    slow_rows, slow_worth, some_lists, some_trees, spoiled, wide_families,
)

BIG = 10 ** 59
WORDS = (("least", least), ("most", most))
SMALL = family_of((2, 2), [((0,), (1, 2)), ((1,), (2, 1))])
TWO = family_of((2,), [((0,), (1, 1))])
UNLIKE = family_of((2,), [((0,), (1, 2)), ((0,), (2, 1))])
PAIRS = [(0, 1), (1, 2), (0, 2), (0, 3), (1, 3), (2, 3)]
FLAT = family_of((2,) * 4, [(pair, (1, 1, 1, 1)) for pair in PAIRS])
SOME = [(0, 0)]
LEAST = ((0, 1), ([0, 1, 2, 0], 1), [[0, 0], [0, 0]], 1)
MOST = ((1, 3), ([1, 0, 1, 1], 1), [[1, 0], [0, 0]], 1)


def slow_bound(family, some, word, told):
    """Whether a tuple is the least or the most, by the words of point 17."""
    (top, bottom), (numbers, times), bet, scale = told
    total = sum(family[1][0][1])
    if top < 0 or bottom < 1 or math.gcd(top, bottom) != 1 or not slow_glued(family, numbers, times):
        return False
    rows = product_rows(family[0])
    there = sum(number for row, number in zip(rows, numbers) if row in some)
    if there * bottom != top * total * times or scale < 1 or not is_form(family, bet):
        return False
    for row, number in zip(rows, slow_rows(family, bet)):
        limit = scale if row in some else 0
        if (number > limit if word == "least" else number < limit):
            return False
    return slow_worth(family, bet) * bottom == scale * top * total


def some_rows(family, source):
    """Happenings of no row, of one, of some, and of all rows, in any order."""
    rows = product_rows(family[0])
    return [source.sample(rows, size) for size in (0, 1, source.randint(1, len(rows)), len(rows))]


def times_over(told, many, more):
    """The same told, its table many times over, its bet more times over."""
    share, (numbers, times), bet, scale = told
    higher = [[number * more for number in each] for each in bet]
    return share, ([number * many for number in numbers], times * many), higher, scale * more


def in_another_order(family, some, ask, source):
    """What is told with the tables in another order, put back into the family's order."""
    frame, tables = family
    order = source.sample(range(len(tables)), len(tables))
    share, table, bet, scale = ask(family_of(frame, [tables[at] for at in order]), some)
    return share, table, [bet[order.index(at)] for at in range(len(tables))], scale


class BoundTest(unittest.TestCase):
    def check(self, family, some):
        """Walks the least and the most of a happening, and gives both shares; None of a family that is never glued."""
        kept = copy.deepcopy((family, some))
        shares = []
        for word, ask in WORDS:
            try:
                told = ask(family, some)
            except NoGlue as error:
                self.assertTrue(slow_bet(family, error.bet), (family, error.bet))
                self.assertEqual((family, some), kept)
                continue
            self.assertEqual((family, some), kept)
            share, table, bet, scale = told
            things = [told, share, *share, table, *table, bet, scale]
            kinds = [tuple, tuple, int, int, tuple, list, int, list, int]
            self.assertEqual([type(thing) for thing in things], kinds)
            self.assertEqual({type(number) for number in table[0]}, {int})
            self.assertEqual({type(each) for each in bet}, {list})
            self.assertTrue(slow_bound(family, some, word, told), (family, some, word, told))
            self.assertIs(is_bound(family, some, word, told), True, (family, some, word, told))
            self.assertEqual((family, some), kept)
            shares.append(Fraction(*share))
        if not shares:
            return None
        self.assertEqual(len(shares), 2)
        self.assertTrue(0 <= shares[0] <= shares[1] <= 1, shares)
        return shares

    def test_two_marks_apart(self):
        # Of n things a have the one and b the other: both have at most the lesser, at least what can't be beside.
        for n, a, b in [(n, a, b) for n in range(1, 6) for a in range(n + 1) for b in range(n + 1)]:
            family = family_of((2, 2), [((0,), (a, n - a)), ((1,), (b, n - b))])
            self.assertEqual(
                self.check(family, [(0, 0)]), [Fraction(max(0, a + b - n), n), Fraction(min(a, b), n)], family
            )
            same, other = self.check(family, [(1, 1), (0, 0)])
            self.assertEqual([same, other], [Fraction(abs(a + b - n), n), 1 - Fraction(abs(a - b), n)])

    def test_by_hand(self):
        self.assertEqual(least(SMALL, SOME)[0], (0, 1))
        self.assertEqual(most(SMALL, SOME)[0], (1, 3))
        self.assertEqual(self.check(TWO, [(1,)]), [Fraction(1, 2)] * 2)
        # Three marks of which each two are together in 2 of 10, and each is in 5: all three in 0 to 1.
        family = family_of((2,) * 3, [(pair, (2, 3, 3, 2)) for pair in ((0, 1), (1, 2), (0, 2))])
        self.assertEqual(self.check(family, [(1, 1, 1)]), [0, Fraction(1, 10)])

    def test_one_table_of_all_marks(self):
        source = random.Random(1)
        for frame in ((2,), (3,), (2, 3), (3, 3, 2), (2, 2, 2, 2, 2)):
            rows = product_rows(frame)
            for total in (1, len(rows), 10 ** 9):
                counts = counts_of(total, len(rows), source)
                family = family_of(frame, [(tuple(range(len(frame))), counts)])
                for some in some_rows(family, source):
                    there = sum(count for row, count in zip(rows, counts) if row in some)
                    self.assertEqual(self.check(family, some), [Fraction(there, total)] * 2)

    def test_many_families(self):
        source = random.Random(2)
        found = []
        for family in mixed_families(25, 3):
            for some in some_rows(family, source):
                found.append(self.check(family, some))
        self.assertGreater(found.count(None), 100)
        self.assertGreater(len([two for two in found if two is not None and two[0] < two[1]]), 60)
        self.assertGreater(len([two for two in found if two is not None and 0 < two[0] < two[1] < 1]), 9)
        self.assertGreater(len([two for two in found if two is not None and 0 < two[0] == two[1] < 1]), 10)

    def test_no_row_and_all_rows(self):
        for family in families_over(some_lists(60, 4), 5):
            rows = product_rows(family[0])
            self.assertEqual(self.check(family, []), [0, 0])
            self.assertEqual(self.check(family, rows), [1, 1])
            self.assertEqual([least(family, [])[0], most(family, [])[0]], [(0, 1), (0, 1)])
            self.assertEqual([least(family, rows)[0], most(family, rows)[0]], [(1, 1), (1, 1)])

    def test_rows_of_one_row_of_a_group(self):
        for lists in (some_trees(15, 6), some_lists(15, 7)):
            for family in families_over(lists, 8):
                frame, tables = family
                for group, counts in tables:
                    places = list(itertools.product(*[range(frame[mark]) for mark in group]))
                    place, count = max(zip(places, counts), key=lambda each: each[1])
                    some = [row for row in product_rows(frame) if tuple(row[mark] for mark in group) == place]
                    self.assertEqual(self.check(family, some), [Fraction(count, sum(counts))] * 2)

    def test_in_any_order(self):
        source = random.Random(9)
        for family in families_over(some_lists(40, 10), 11):
            rows = product_rows(family[0])
            some = source.sample(rows, source.randint(2, len(rows)))
            shares = self.check(family, some)
            self.assertEqual(self.check(family, some[::-1]), shares)
            self.assertEqual(self.check(family, sorted(some)), shares)

    def test_some_rows_and_all_others(self):
        source = random.Random(12)
        for family in families_over(some_lists(60, 13), 14):
            for some in some_rows(family, source):
                others = [row for row in product_rows(family[0]) if row not in some]
                low, high = self.check(family, some)
                self.assertEqual(self.check(family, others), [1 - high, 1 - low])

    def test_the_product_lies_between(self):
        source = random.Random(15)
        for family in families_over(some_trees(60, 16), 17):
            numbers, times = product(family)
            for some in some_rows(family, source):
                there = sum(number for row, number in zip(product_rows(family[0]), numbers) if row in some)
                low, high = self.check(family, some)
                self.assertTrue(low <= Fraction(there, sum(numbers)) <= high)

    def test_more_rows_count_no_less(self):
        source = random.Random(18)
        for family in families_over(some_lists(25, 19), 20):
            some = []
            before = [0, 0]
            for row in source.sample(product_rows(family[0]), min(6, len(product_rows(family[0])))):
                some.append(row)
                shares = self.check(family, some)
                self.assertTrue(before[0] <= shares[0] and before[1] <= shares[1])
                before = shares

    def test_times_above_1(self):
        source = random.Random(21)
        found = []
        for row in product_rows((2,) * 4):
            # Two of twelve things have this row, and one each row that is unlike it at two or three marks.
            self.assertEqual(self.check(FLAT, [row]), [0, Fraction(1, 6)])
        for size in range(2, 16):
            found.extend(self.check(FLAT, source.sample(product_rows((2,) * 4), size)))
        self.assertGreater(len([share for share in found if share.denominator > 4]), 3)

    def test_at_the_greatest_sizes(self):
        source = random.Random(22)
        found = []
        for family in wide_families(23):
            rows = product_rows(family[0])
            found.append(self.check(family, source.sample(rows, source.randint(1, len(rows)))))
            found.append(self.check(family, source.sample(rows, 1)))
        self.assertGreater(found.count(None), 9)
        self.assertGreater(len(found) - found.count(None), 30)

    def test_never_glued(self):
        refused = 0
        for family in any_families(some_lists(60, 24), 25):
            for word, ask in WORDS:
                for some in ([], product_rows(family[0])[:1], product_rows(family[0])):
                    kept = copy.deepcopy((family, some))
                    try:
                        ask(family, some)
                    except NoGlue as error:
                        refused += 1
                        self.assertTrue(slow_bet(family, error.bet))
                    self.assertEqual((family, some), kept)
        self.assertGreater(refused, 100)
        for word, ask in WORDS:
            with self.assertRaises(NoGlue) as caught:
                ask(UNLIKE, [(0,)])
            self.assertTrue(slow_bet(UNLIKE, caught.exception.bet))

    def test_what_was_told_changed_afterwards(self):
        for family in families_over(some_lists(10, 26), 27):
            some = product_rows(family[0])[:2]
            for word, ask in WORDS:
                told = ask(family, some)
                kept = copy.deepcopy(told)
                told[1][0].reverse()
                told[1][0].append(1)
                told[2][0][0] += 7
                told[2][-1].append(1)
                told[2].reverse()
                self.assertEqual(ask(family, some), kept)
        with self.assertRaises(NoGlue) as caught:
            least(UNLIKE, [])
        kept = copy.deepcopy(caught.exception.bet)
        caught.exception.bet.clear()
        with self.assertRaises(NoGlue) as caught:
            most(UNLIKE, [])
        self.assertEqual(caught.exception.bet, kept)

    def test_what_was_handed_in_changed_afterwards(self):
        some = [(0, 0), (1, 1)]
        told = most(SMALL, some)
        kept = copy.deepcopy(told)
        some.pop()
        self.assertEqual(told, kept)
        self.assertEqual(most(SMALL, [(0, 0), (1, 1)]), kept)
        self.assertEqual(most(SMALL, some)[0], (1, 3))


class IsBoundTest(unittest.TestCase):
    def check(self, family, some, word, told, answer):
        kept = copy.deepcopy((family, some, word, told))
        self.assertIs(is_bound(family, some, word, told), answer, (family, some, word, told))
        self.assertEqual((family, some, word, told), kept)

    def test_by_whoever_wrote_it(self):
        self.check(SMALL, SOME, "least", LEAST, True)
        self.check(SMALL, SOME, "least", ((0, 1), ([0, 2 * BIG, 4 * BIG, 0], 2 * BIG), [[0, 0], [0, 0]], 7), True)
        self.check(SMALL, SOME, "least", ((0, 1), ([0, 1, 2, 0], 1), [[5, 5], [-5, -5]], 1), True)
        # Those with the first kind of the second mark, less those without that of the first mark: 2 - 2 is 0.
        self.check(SMALL, SOME, "least", ((0, 1), ([0, 1, 2, 0], 1), [[0, -1], [1, 0]], 1), True)
        self.check(SMALL, SOME, "most", MOST, True)
        self.check(SMALL, SOME, "most", ((1, 3), ([2, 0, 2, 2], 2), [[BIG, 0], [0, 0]], BIG), True)
        self.check(SMALL, SOME, "most", ((1, 3), ([1, 0, 1, 1], 1), [[4, 3], [-3, -3]], 1), True)
        self.check(TWO, [(1,)], "least", ((1, 2), ([1, 1], 1), [[0, 1]], 1), True)
        self.check(TWO, [(1,)], "most", ((1, 2), ([1, 1], 1), [[0, 1]], 1), True)

    def test_the_other_word(self):
        self.check(SMALL, SOME, "most", LEAST, False)
        self.check(SMALL, SOME, "least", MOST, False)
        source = random.Random(30)
        answers = []
        for family in families_over(some_lists(40, 31), 32):
            for some in some_rows(family, source):
                for (word, ask), (other, asked) in (WORDS, WORDS[::-1]):
                    told = ask(family, some)
                    answers.append(slow_bound(family, some, other, told))
                    self.check(family, some, other, told, answers[-1])
        self.assertGreater(answers.count(True), 20)
        self.assertGreater(answers.count(False), 20)

    def test_other_words(self):
        for word in ("", "Least", "MOST", " least", "most ", "last", "greatest", "glued", "never", "leastmost", "0"):
            self.check(SMALL, SOME, word, LEAST, False)
            self.check(SMALL, SOME, word, MOST, False)
            self.check(TWO, [(1,)], word, ((1, 2), ([1, 1], 1), [[0, 1]], 1), False)

    def test_shares(self):
        for share in ((0, 2), (0, 3), (0, BIG), (0, -1), (0, 0), (1, 1), (1, 3), (-1, 1), (1, 0), (-1, 3)):
            self.check(SMALL, SOME, "least", (share, *LEAST[1:]), False)
        for share in ((2, 6), (3, 9), (BIG, 3 * BIG), (-1, -3), (1, -3), (3, 1), (0, 1), (1, 1), (1, 2), (2, 3),
                      (1, 0)):
            self.check(SMALL, SOME, "most", (share, *MOST[1:]), False)
        everything = [(0, 0), (0, 1), (1, 0), (1, 1)]
        told = ((1, 1), ([0, 1, 2, 0], 1), [[1, 1], [0, 0]], 1)
        self.check(SMALL, everything, "least", told, True)
        self.check(SMALL, everything, "most", told, True)
        for share in ((2, 2), (3, 3), (-1, -1), (0, 0), (2, 1), (1, 2)):
            self.check(SMALL, everything, "least", (share, *told[1:]), False)
            self.check(SMALL, everything, "most", (share, *told[1:]), False)

    def test_tables_that_are_not_glued_or_have_another_share(self):
        self.check(SMALL, SOME, "least", ((0, 1), ([1, 0, 1, 1], 1), *LEAST[2:]), False)
        self.check(SMALL, SOME, "most", ((1, 3), ([0, 1, 2, 0], 1), *MOST[2:]), False)
        self.check(SMALL, SOME, "least", ((0, 1), ([0, 2, 1, 0], 1), *LEAST[2:]), False)
        self.check(SMALL, SOME, "least", ((0, 1), ([0, 1, 2, 0], 2), *LEAST[2:]), False)
        self.check(SMALL, SOME, "least", ((0, 1), ([0, 0, 0, 0], 0), *LEAST[2:]), False)
        self.check(SMALL, SOME, "least", ((0, 1), ([0, -1, -2, 0], -1), *LEAST[2:]), False)
        # What is below 0 here would make the sums right, and the count on the row greater than it can be.
        self.check(SMALL, SOME, "most", ((2, 3), ([2, -1, 0, 2], 1), [[2, 0], [0, 0]], 1), False)

    def test_bets_that_go_beyond(self):
        for bet in ([[1, 0], [0, 0]], [[0, 0], [1, 0]], [[-1, 0], [0, 0]], [[2, -1], [0, 0]], [[-2, 1], [0, 0]]):
            self.check(SMALL, SOME, "least", (*LEAST[:2], bet, 1), False)
        for bet in ([[0, 0], [0, 0]], [[2, 0], [0, 0]], [[0, 0], [1, 0]], [[0, 0], [0, 1]], [[3, -1], [0, 0]]):
            self.check(SMALL, SOME, "most", (*MOST[:2], bet, 1), False)
        # The least of two rows by a bet that comes to more than the scale on one, to less on the other.
        self.check(TWO, [(0,), (1,)], "least", ((1, 1), ([1, 1], 1), [[2, 0]], 1), False)
        self.check(TWO, [(0,), (1,)], "most", ((1, 1), ([1, 1], 1), [[2, 0]], 1), False)
        self.check(TWO, [(0,), (1,)], "least", ((1, 1), ([1, 1], 1), [[1, 1]], 1), True)
        self.check(TWO, [(1,)], "least", ((1, 2), ([1, 1], 1), [[1, 0]], 1), False)
        self.check(TWO, [(1,)], "most", ((1, 2), ([1, 1], 1), [[1, 0]], 1), False)

    def test_scale_below_1(self):
        noughts = [[0, 0], [0, 0]]
        for scale in (0, -1, -BIG):
            self.check(SMALL, SOME, "least", (*LEAST[:2], noughts, scale), False)
            self.check(SMALL, SOME, "most", (*MOST[:2], noughts, scale), False)
            self.check(SMALL, SOME, "most", (*MOST[:2], [[scale, 0], [0, 0]], scale), False)
            self.check(SMALL, [(1, 1)], "least", ((0, 1), ([1, 0, 1, 1], 1), [[0, scale], [0, 0]], scale), False)

    def test_other_scales(self):
        for scale in (2, 3, BIG):
            self.check(SMALL, SOME, "most", (*MOST[:2], MOST[2], scale), False)
            self.check(SMALL, SOME, "most", (*MOST[:2], [[scale, 0], [0, 0]], scale), True)
            self.check(SMALL, SOME, "most", (*MOST[:2], [[scale, 0], [0, 0]], scale - 1), False)
            # The least of nothing is 0, whatever the scale.
            self.check(SMALL, SOME, "least", (*LEAST[:3], scale), True)

    def test_other_lengths(self):
        for told, word in ((LEAST, "least"), (MOST, "most")):
            share, (numbers, times), bet, scale = told
            self.check(SMALL, SOME, word, told, True)
            for other in ([], numbers[:-1], numbers + [0], [0] + numbers, numbers * 2, [0] * 100):
                self.check(SMALL, SOME, word, (share, (other, times), bet, scale), False)
            for other in ([], bet[:1], [*bet, []], [*bet, [0, 0]], [bet[0], []], [bet[0], [0]], [bet[0], [0, 0, 0]],
                          [bet[0] + [0], bet[1]], [bet[0][:1], bet[1]], [bet[0] + bet[1]], bet * 50):
                self.check(SMALL, SOME, word, (share, (numbers, times), other, scale), False)
            for other in ((), share[:1], share + (1,), list(share)):
                self.check(SMALL, SOME, word, (other, (numbers, times), bet, scale), False)
            for other in ((), (numbers,), (numbers, times, 1)):
                self.check(SMALL, SOME, word, (share, other, bet, scale), False)
            for other in ((), told[:1], told[:2], told[:3], told + (1,), list(told), [*told, 1]):
                self.check(SMALL, SOME, word, other, False)

    def test_truths_are_no_numbers(self):
        some, told = [(1,)], ((1, 2), ([1, 1], 1), [[0, 1]], 1)
        for word in ("least", "most"):
            self.check(TWO, some, word, told, True)
            self.check(TWO, some, word, ((True, 2), *told[1:]), False)
            self.check(TWO, some, word, (told[0], ([1, True], 1), *told[2:]), False)
            self.check(TWO, some, word, (told[0], ([1, 1], True), *told[2:]), False)
            self.check(TWO, some, word, (*told[:2], [[False, 1]], 1), False)
            self.check(TWO, some, word, (*told[:3], True), False)
        self.check(SMALL, SOME, "least", ((0, True), *LEAST[1:]), False)
        self.check(SMALL, SOME, "least", ((False, 1), *LEAST[1:]), False)

    def test_all_small_numbers(self):
        right = {"least": 0, "most": 0}
        thin = family_of((2,), [((0,), (0, 1))])
        near = range(-1, 3)
        for family, some in ((TWO, [(1,)]), (TWO, []), (thin, [(0,)]), (thin, [(0,), (1,)]), (UNLIKE, [(1,)])):
            tables = [(list(two), times) for two in itertools.product(range(-1, 2), repeat=2) for times in near]
            lists = [list(two) for two in itertools.product(range(-1, 2), repeat=2)]
            bets = [[each] if len(family[1]) == 1 else [each, [1, 0]] for each in lists]
            for share, table, bet, scale in itertools.product(itertools.product(near, near), tables, bets, near):
                told = (share, table, bet, scale)
                if scale == -1 and table[1] == -1:
                    continue
                for word in ("least", "most"):
                    answer = slow_bound(family, some, word, told)
                    right[word] += answer
                    self.assertIs(is_bound(family, some, word, told), answer, (family, some, word, told))
        self.assertGreater(min(right.values()), 3)

    def test_some_times_over(self):
        source = random.Random(40)
        for family in families_over(some_lists(12, 41), 42):
            for some in some_rows(family, source):
                for word, ask in WORDS:
                    told = ask(family, some)
                    for many, more in itertools.product((1, 3, BIG), repeat=2):
                        self.check(family, some, word, times_over(told, many, more), True)

    def test_another_one(self):
        source = random.Random(43)
        unlike = 0
        for family in families_over(some_lists(40, 44), 45):
            for some in some_rows(family, source):
                for word, ask in WORDS:
                    other = in_another_order(family, some, ask, source)
                    unlike += other != ask(family, some)
                    self.check(family, some, word, other, True)
        self.assertGreater(unlike, 30)

    def test_one_number_changed(self):
        source = random.Random(46)
        answers = []
        for family in families_over(some_lists(8, 47), 48):
            some = source.sample(product_rows(family[0]), 2)
            for word, ask in WORDS:
                share, (numbers, times), bet, scale = ask(family, some)
                for place, more in itertools.product(range(len(numbers)), (-1, 1)):
                    other = [*numbers[:place], numbers[place] + more, *numbers[place + 1:]]
                    self.check(family, some, word, (share, (other, times), bet, scale), False)
                for at, more in itertools.product(range(len(bet)), (-1, 1)):
                    for place in range(len(bet[at])):
                        other = copy.deepcopy(bet)
                        other[at][place] += more
                        told = (share, (numbers, times), other, scale)
                        answers.append(slow_bound(family, some, word, told))
                        self.check(family, some, word, told, answers[-1])
                for more in (-times, -1, 1):
                    self.check(family, some, word, (share, (numbers, times + more), bet, scale), False)
                for more in (-scale, -1, 1):
                    told = (share, (numbers, times), bet, scale + more)
                    answers.append(slow_bound(family, some, word, told))
                    self.check(family, some, word, told, answers[-1])
                for top, bottom in itertools.product((-1, 0, 1), repeat=2):
                    other = (share[0] + top, share[1] + bottom)
                    self.check(family, some, word, (other, (numbers, times), bet, scale), other == share)
        self.assertGreater(answers.count(False), 100)
        self.assertGreater(answers.count(True), 3)

    def test_of_other_rows(self):
        source = random.Random(49)
        answers = []
        for family in families_over(some_lists(30, 50), 51):
            for some, other in zip(some_rows(family, source), some_rows(family, source)[::-1]):
                for word, ask in WORDS:
                    told = ask(family, some)
                    answers.append(slow_bound(family, other, word, told))
                    self.check(family, other, word, told, answers[-1])
                    self.check(family, source.sample(some, len(some)), word, told, True)
        self.assertGreater(answers.count(False), 50)

    def test_of_a_family_that_is_never_glued(self):
        source = random.Random(52)
        refused = 0
        for family in families_over(some_lists(60, 53), 54):
            other = spoiled(family, source)
            for some in some_rows(family, source):
                for word, ask in WORDS:
                    told = ask(family, some)
                    answer = slow_bound(other, some, word, told)
                    self.check(other, some, word, told, answer)
                    try:
                        ask(other, some)
                    except NoGlue:
                        refused += 1
                        self.assertFalse(answer)
        self.assertGreater(refused, 100)
        noughts = [[0, 0], [0, 0]]
        for word, share, numbers in itertools.product(("least", "most"), ((0, 1), (1, 3), (2, 3), (1, 1)), (
            [1, 2], [2, 1], [1, 1], [3, 3], [0, 0],
        )):
            for bet in (noughts, [[1, 0], [0, 0]], [[0, 1], [0, 0]], [[1, 1], [0, 0]], [[1, 0], [-1, 0]]):
                self.check(UNLIKE, [(0,)], word, (share, (numbers, 1), bet, 1), False)

    def test_told_of_any_counts(self):
        source = random.Random(55)
        for total in (1, 3, 1000, 10 ** 9):
            for round_number in range(10):
                family = any_family((3, 3, 2), [(0,), (1,), (2,)], total, source)
                for some in some_rows(family, source):
                    for word, ask in WORDS:
                        self.check(family, some, word, ask(family, some), True)


if __name__ == "__main__":
    unittest.main()
