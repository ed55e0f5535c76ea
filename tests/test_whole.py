"""Points 1 to 3 over the whole program, by texts: what the desk says, and what the functions beneath tell of it."""

import random
import unittest

from gluedtables.apart import never
from gluedtables.changes import added, exchanged
from gluedtables.desk import Desk
from gluedtables.errors import GlueError, NoGlue, NoTree, TooMany
from gluedtables.glue import glued, is_told
from gluedtables.happenings import is_bound, least, most
from gluedtables.parts import is_part, part
from gluedtables.products import is_glued, product
from gluedtables.shapes import is_shown, shape
from gluedtables.tables import groups_of
from gluedtables.texts import read_family, show_family
from samples import mixed_families, product_rows, slow_bet, slow_glued, slow_text, some_lists, some_names, wide_families


def some_texts(rounds, seed):
    """Texts of families that are glued and of ones that never are."""
    source = random.Random(seed)
    for family in mixed_families(rounds, seed):
        yield slow_text(some_names(len(family[0]), source), family)
    for number, family in enumerate(wide_families(seed)):
        if number % 8 < 3:
            yield slow_text(some_names(len(family[0]), source), family)


def all_rows_row(word, text):
    """The row that asks of all rows of a text's frame."""
    frame = [int(word[-1]) for word in text.split("\n")[0].split(" ")[1:]]
    return " ".join([word] + ["".join(map(str, row)) for row in product_rows(frame)])


class WholeTest(unittest.TestCase):
    def check_glued(self, desk, text):
        """What is so where the desk says that a family is glued."""
        self.assertEqual([desk.say("share"), desk.say("agree")], ["1/1", "yes"])
        self.assertEqual([desk.say(all_rows_row(word, text)) for word in ("least", "most")], ["1/1", "1/1"])
        family = read_family(text)[1]
        word, table = glued(family)
        self.assertEqual(word, "glued")
        self.assertTrue(slow_glued(family, *table))

    def check_never(self, desk, text):
        """What is so where the desk says that a family is never glued."""
        self.assertNotEqual(desk.say("share"), "1/1")
        family = read_family(text)[1]
        for row in ("least", "most"):
            with self.assertRaises(NoGlue) as caught:
                desk.say(all_rows_row(row, text))
            self.assertTrue(slow_bet(family, caught.exception.bet))
        word, bet = glued(family)
        self.assertEqual(word, "never")
        self.assertTrue(slow_bet(family, bet))

    def test_glued_or_never_by_texts(self):
        found = []
        for text in some_texts(40, 1):
            desk = Desk(text)
            found.append((desk.say("glued"), desk.say("agree")[:2], desk.say("shape")))
            if found[-1][0] == "yes":
                self.check_glued(desk, text)
            else:
                self.assertEqual(found[-1][0], "no")
                self.check_never(desk, text)
            self.assertEqual(desk.say("show"), text)
        self.assertEqual(found.count(("no", "ye", "tree")), 0)
        for shape_word in ("tree", "ring", "knot"):
            self.assertGreater(len([each for each in found if each[2] == shape_word]), 2, shape_word)
        self.assertGreater(len([each for each in found if each[0] == "yes"]), 50)
        self.assertGreater(len([each for each in found if each[0] == "no"]), 50)

    def test_changes_carry_it_along(self):
        source = random.Random(2)
        taken = 0
        for text in some_texts(15, 3):
            desk = Desk(text)
            if desk.say("glued") == "yes":
                for step in range(4):
                    names = [word[:-1] for word in desk.say("show").split("\n")[0].split(" ")[1:]]
                    row = source.choice((f"forget {source.choice(names)}", f"join {source.choice(names)} 0 2"))
                    try:
                        taken += desk.say(row) == "ok"
                    except GlueError:
                        continue
                    self.check_glued(desk, desk.say("show"))
                    self.assertEqual(desk.say("glued"), "yes")
        self.assertGreater(taken, 50)

    def test_families_added_and_exchanged_by_texts(self):
        source = random.Random(4)
        for text in some_texts(15, 5):
            names, family = read_family(text)
            if sum(family[1][0][1]) <= 10 ** 9 // 2:
                desk = Desk(show_family(names, added(family, family)))
                for row in ("glued", "share", "agree", "shape"):
                    self.assertEqual(desk.say(row), Desk(text).say(row))
            order = source.sample(range(len(names)), len(names))
            moved = [names[order.index(mark)] for mark in range(len(names))]
            desk = Desk(show_family(moved, exchanged(family, order)))
            for row in ("glued", "share", "whole"):
                self.assertEqual(desk.say(row), Desk(text).say(row))

    def test_what_is_told_is_let_by(self):
        source = random.Random(6)
        for text in some_texts(15, 7):
            family = read_family(text)[1]
            rows = product_rows(family[0])
            some = source.sample(rows, source.randint(0, len(rows)))
            self.assertTrue(is_shown(groups_of(family), shape(groups_of(family))))
            self.assertTrue(is_part(family, part(family)))
            told = glued(family)
            self.assertTrue(is_told(family, told))
            if told[0] == "glued":
                self.assertTrue(is_bound(family, some, "least", least(family, some)))
                self.assertTrue(is_bound(family, some, "most", most(family, some)))
                if shape(groups_of(family))[0] == "tree":
                    self.assertTrue(is_glued(family, product(family)))

    def test_tables_that_agree_and_are_never_glued(self):
        told = 0
        for groups in some_lists(150, 8):
            marks = sorted({mark for group in groups for mark in group})
            groups = [tuple(marks.index(mark) for mark in group) for group in groups]
            try:
                family, bet = never(groups)
            except (NoTree, TooMany):
                continue
            told += 1
            desk = Desk(show_family(list("abcdef")[:len(marks)], family))
            self.assertEqual([desk.say("agree"), desk.say("glued")], ["yes", "no"])
            self.assertIn(desk.say("shape"), ("ring", "knot"))
            self.assertTrue(slow_bet(family, bet))
        self.assertGreater(told, 30)

    def test_the_same_again(self):
        # Nothing hangs on a clock, on chance, or on what was asked before.
        for text in some_texts(4, 9):
            family = read_family(text)[1]
            some = product_rows(family[0])[::3]
            for ask in (part, glued):
                self.assertEqual(ask(family), ask(family))
            if glued(family)[0] == "glued":
                self.assertEqual([least(family, some), most(family, some)], [least(family, some), most(family, some)])


if __name__ == "__main__":
    unittest.main()
