"""Points 2, 3, 6 and 23: the desk, which is told rows of words and answers with texts."""

import itertools
import random
import unittest
from fractions import Fraction

from gluedtables.apart import never
from gluedtables.changes import forgotten, joined
from gluedtables.desk import Desk
from gluedtables.errors import GlueError, NoBack, NoFrame, NoGlue, NoName, NoRow, NoTable, NoText, TooMany
from gluedtables.happenings import least, most
from gluedtables.parts import share
from gluedtables.tables import family_of
from samples import (
    any_families, any_family, counts_of, families_over, knot_of, mixed_families, product_rows, ring_of,
    rings_and_knots, slow_agree, slow_bet, slow_pairs, slow_text, some_lists, some_names, some_trees, wide_families,
)

TEXT = "marks sun2 wind3\ntable sun wind : 1 0 2 0 0 3\ntable wind : 1 0 5"
UNLIKE = "marks sun2 wind3\ntable sun wind : 1 0 2 0 0 3\ntable wind : 0 1 5"
ASKED = ("show", "whole", "agree", "shape", "glued", "share")
RING = "marks a2 b2 c2 d2\ntable a b : 1 0 0 1\ntable b c : 1 0 0 1\ntable c d : 1 0 0 1\ntable a d : 0 1 1 0"
KNOT = "marks a2 b2 c2\ntable a b : 1 1 1 0\ntable b c : 1 1 1 0\ntable a c : 1 1 1 0"
EMPTY_KNOT = "marks a2 b2 c2\ntable a b : 0 1 1 0\ntable b c : 0 1 1 0\ntable a c : 0 1 1 0"


def written(row):
    """A row as it is written."""
    return "".join(str(kind) for kind in row)


def fraction(two):
    """A share as it is written."""
    return f"{two[0]}/{two[1]}"


class DeskCase(unittest.TestCase):
    def refused(self, desk, row, error, **fields):
        """Tells a row that is refused, and sees that the desk is as it was."""
        before = desk.say("show")
        with self.assertRaises(error, msg=repr(row)) as caught:
            desk.say(row)
        self.assertEqual(vars(caught.exception), fields, repr(row))
        self.assertEqual(desk.say("show"), before)
        return caught.exception


class AnswerTest(DeskCase):
    def test_by_hand(self):
        desk = Desk(TEXT)
        for row, answer in (
            ("show", TEXT), ("whole", "6"), ("agree", "yes"), ("shape", "tree"), ("glued", "yes"), ("share", "1/1"),
            ("least 00", "1/6"), ("most 12 02", "5/6"), ("least 01", "0/1"), ("most 00 01 02 10 11 12", "1/1"),
        ):
            self.assertEqual(desk.say(row), answer)
        desk = Desk(UNLIKE)
        for row, answer in (
            ("show", UNLIKE), ("whole", "6"), ("agree", "no 0 1 0"), ("shape", "tree"), ("glued", "no"),
            ("share", "5/6"),
        ):
            self.assertEqual(desk.say(row), answer)
        desk = Desk("marks x2 y2\ntable x : 1 2\ntable y : 2 1")
        self.assertEqual([desk.say("least 00"), desk.say("most 00")], ["0/1", "1/3"])
        self.assertEqual([desk.say("least 11 00"), desk.say("most 11 00")], ["0/1", "2/3"])

    def test_rings_and_knots(self):
        for text, answers in (
            (RING, ["2", "yes", "ring", "no", "0/1"]), (KNOT, ["3", "yes", "knot", "yes", "1/1"]),
            (EMPTY_KNOT, ["2", "yes", "knot", "no", "0/1"]),
        ):
            desk = Desk(text)
            self.assertEqual([desk.say(row) for row in ASKED], [text] + answers)
        desk = Desk(KNOT)
        self.assertEqual([desk.say("least 000"), desk.say("most 000")], ["0/1", "0/1"])
        self.assertEqual([desk.say("least 100 001"), desk.say("most 100 001")], ["2/3", "2/3"])

    def test_which_tables_do_not_agree(self):
        tables = ["table a b : 1 0 1 0 1 0", "table b c : 1 0 1 1", "table a c : 1 0 1 1 0 0"]
        desk = Desk("\n".join(["marks a3 b2 c2"] + tables))
        self.assertEqual(desk.say("agree"), "no 0 1 0")
        self.assertEqual(desk.say("count 1 2 1 0 0"), "ok")
        self.assertEqual(desk.say("agree"), "no 0 2 1")
        self.assertEqual(desk.say("count 2 1 0 1 0 0 1"), "ok")
        self.assertEqual(desk.say("agree"), "yes")
        self.assertEqual(desk.say("count 2 0 1 0 1 0 1"), "ok")
        self.assertEqual(desk.say("agree"), "no 1 2 0")
        tables = ["table a b c : 1 0 0 0 0 0 0 1 0 0 0 0", "table a b : 1 0 0 1 0 0", "table a c : 0 0 0 1 0 1"]
        desk = Desk("\n".join(["marks a3 b2 c2"] + tables))
        self.assertEqual(desk.say("agree"), "no 0 2 00")
        self.assertEqual(desk.say("count 2 1 0 0 0 0 1"), "ok")
        self.assertEqual(desk.say("agree"), "no 0 2 11")

    def check(self, names, family, source):
        """Asks a desk of a family all there is to ask."""
        text = slow_text(names, family)
        desk = Desk(text)
        self.assertEqual(desk.say("show"), text)
        self.assertEqual(desk.say("whole"), str(sum(family[1][0][1])))
        found = slow_agree(family)
        self.assertEqual(desk.say("agree"), "yes" if found is None else f"no {found[0]} {found[1]} {written(found[2])}")
        groups = [group for group, counts in family[1]]
        words = ["tree"] if slow_pairs(groups)[1] == 1 else [word for word, marks in rings_and_knots(groups)]
        self.assertIn(desk.say("shape"), words)
        told = share(family)
        self.assertEqual(desk.say("share"), fraction(told))
        self.assertEqual(desk.say("glued"), "yes" if told == (1, 1) else "no")
        rows = product_rows(family[0])
        some = source.sample(rows, source.choice((1, 1, 2, len(rows))))
        for word, ask in (("least", least), ("most", most)):
            row = " ".join([word] + [written(each) for each in some])
            if told == (1, 1):
                self.assertEqual(desk.say(row), fraction(ask(family, some)[0]))
            else:
                with self.assertRaises(NoGlue) as caught:
                    desk.say(row)
                self.assertTrue(slow_bet(family, caught.exception.bet))
        self.assertEqual(desk.say("show"), text)
        with self.assertRaises(NoBack):
            desk.say("back")
        return desk.say("shape"), desk.say("agree") == "yes", desk.say("glued")

    def test_many_families(self):
        source = random.Random(1)
        found = []
        for family in mixed_families(25, 2):
            found.append(self.check(some_names(len(family[0]), source), family, source))
        rings = [ring_of([0, 1, 2, 3]), ring_of([0, 2, 1, 4, 3]), ring_of([5, 0, 2, 1, 4, 3])]
        knots = [knot_of([0, 1, 2]), knot_of([0, 1, 2, 3])]
        for family in itertools.chain(families_over(rings + knots, 1), any_families(rings + knots, 2)):
            found.append(self.check(some_names(len(family[0]), source), family, source))
        for groups in rings + knots:
            found.append(self.check(some_names(max(map(max, groups)) + 1, source), never(groups)[0], source))
            self.assertIn(found[-1], [("ring", True, "no"), ("knot", True, "no")])
        for shape in ("tree", "ring", "knot"):
            for answers in ((True, "yes"), (False, "no")):
                self.assertGreater(found.count((shape, *answers)), 2, (shape, answers))
            self.assertEqual(found.count((shape, False, "yes")), 0)
        self.assertEqual(found.count(("tree", True, "no")), 0)

    def test_at_the_greatest_sizes(self):
        source = random.Random(3)
        for number, family in enumerate(wide_families(4)):
            if number % 4 == 0:
                self.check(some_names(len(family[0]), source), family, source)


class RowTest(DeskCase):
    def test_rows_that_are_none(self):
        for text in (TEXT, UNLIKE, KNOT):
            desk = Desk(text)
            for row in ("", " ", "  ", "Show", "SHOW", "shows", "sho", "show show", "whole 6", "agree 0 1",
                        "shape tree",
                        "glued yes", "share 1/1", "tell", "show;", "\n", "show\nwhole", "yes", "ok", "count", "forget",
                        "join", "least", "most", "back back", "sum", "table sun : 3 3", "help", "0", "00", ":"):
                self.refused(desk, row, NoRow)

    def test_blanks(self):
        desk = Desk(TEXT)
        for row in ASKED + ("back", "least 00", "most 00 01", "count 1 1 0 5", "join wind 0 1"):
            spaced = [" " + row, row + " ", row + "  ", "\t" + row, row + "\t", row + "\n", "\n" + row, row.upper()]
            for at in [place for place, sign in enumerate(row) if sign == " "]:
                spaced.extend([row[:at] + "  " + row[at + 1:], row[:at] + "\t" + row[at + 1:]])
            for other in spaced + [row.replace(" ", "", 1)]:
                if other != row:
                    self.refused(desk, other, NoRow)
        for row in (" forget sun", "forget sun ", "forget  sun", "forget sun wind", "forget", "forgetsun", "Forget sun",
                    "forget\tsun"):
            self.refused(desk, row, NoRow)

    def test_what_is_no_text(self):
        desk = Desk(TEXT)
        for thing in (None, 0, 5, True, [], ["show"], ("show",), {}, b"show", 1.5, object(), str):
            self.refused(desk, thing, NoRow)

    def test_happenings_that_are_not_written_so(self):
        for text in (TEXT, UNLIKE):
            desk = Desk(text)
            for word in ("least", "most"):
                for rows in ("", "0", "000", "0 0", "03", "20", "21", "22", "-1", "0x", "ab", "00 0", "00 000", "00 00",
                             "00 01 00", "12 12", "00 20", "20 00", "00 03", "sun", "0,0", "(0, 0)", "00,01", "000 01",
                             "0 00", "00 x", "00 -1", "+0", "0.", "00 01 02 10 11 12 13", "00 01 02 10 11 12 00"):
                    self.refused(desk, f"{word} {rows}", NoRow)
                self.refused(desk, word, NoRow)
                self.refused(desk, f"{word}  00", NoRow)
                self.refused(desk, f"{word} 00 ", NoRow)
                self.refused(desk, f"{word} 00  01", NoRow)

    def test_rows_of_the_marks_that_are_left(self):
        desk = Desk(TEXT)
        self.assertEqual(desk.say("most 12"), "1/2")
        self.assertEqual(desk.say("join wind 0 1"), "ok")
        self.refused(desk, "most 12", NoRow)
        self.assertEqual(desk.say("most 11"), "1/2")
        self.assertEqual(desk.say("forget wind"), "ok")
        self.refused(desk, "most 11", NoRow)
        self.assertEqual(desk.say("most 1"), "1/2")
        self.assertEqual([desk.say("back"), desk.say("back")], ["ok", "ok"])
        self.refused(desk, "most 1", NoRow)
        self.assertEqual(desk.say("most 12"), "1/2")

    def test_rows_of_marks_of_two_and_three_kinds(self):
        desk = Desk("marks a3 b2 c3\ntable a b c : " + " ".join(str(count) for count in range(18)))
        for number, row in enumerate(itertools.product(range(3), range(2), range(3))):
            self.assertEqual(desk.say("least " + written(row)), fraction(Fraction(number, 153).as_integer_ratio()))
        for row in ("020", "003", "300", "120", "222", "0000", "00"):
            self.refused(desk, "least " + row, NoRow)
            self.refused(desk, "most 000 " + row, NoRow)

    def test_a_bet_where_it_is_never_glued(self):
        family = family_of((2, 3), [((0, 1), (1, 0, 2, 0, 0, 3)), ((1,), (0, 1, 5))])
        desk = Desk(UNLIKE)
        for row in ("least 00", "most 00", "least 12 00", "most 00 01 02 10 11 12"):
            with self.assertRaises(NoGlue) as caught:
                desk.say(row)
            self.assertTrue(slow_bet(family, caught.exception.bet))
            self.assertEqual(desk.say("show"), UNLIKE)
            caught.exception.bet.clear()


class ChangeTest(DeskCase):
    def test_count(self):
        desk = Desk(TEXT)
        self.assertEqual(desk.say("count 1 0 1 5"), "ok")
        self.assertEqual(desk.say("show"), UNLIKE)
        self.assertEqual([desk.say("agree"), desk.say("glued")], ["no 0 1 0", "no"])
        self.assertEqual(desk.say("count 0 0 1 2 0 0 3"), "ok")
        self.assertEqual([desk.say("agree"), desk.say("glued")], ["yes", "yes"])
        self.assertEqual(desk.say("show"), UNLIKE.replace(": 1 0 2", ": 0 1 2"))
        alone = Desk("marks a2\ntable a : 1 0")
        self.assertEqual(alone.say("count 0 0 1000000000"), "ok")
        self.assertEqual([alone.say("whole"), alone.say("show")], ["1000000000", "marks a2\ntable a : 0 1000000000"])

    def test_count_that_is_none(self):
        desk = Desk(TEXT)
        for row in ("count", "count 0", "count 1", "count ", "count 0 ", "count  0 1", "count 2 1 0 5", "count 3 1 0 5",
                    "count 8 1", "count -1 1 0 5", "count +1 1 0 5", "count 01 1 0 5", "count 00 1 0 2 0 0 3",
                    "count x 1 0 5", "count wind 1 0 5", "count 1 1 0 05", "count 1 1 0 -5", "count 1 1 0 x",
                    "count 1 : 1 0 5", "count 1 1 0 00", "count 1 12345678901 0 5", "count 1 1 00000000000 5",
                    "count 10000000000 1 0 5", "count 9999999999 1 0 5", "count 1 1 0 5 ", "count 1 1  0 5",
                    "count 1.0 1 0 5",
                    "count 1 1 0 5.0", "count 2 1", "count 2 0 0 0 0", "count 1 1 0 5x"):
            self.refused(desk, row, NoRow)
        for row, at in (("count 1 1 0 5 0", 1), ("count 1 1", 1), ("count 1 1 5", 1), ("count 1 0 0 0", 1),
                        ("count 1 1 1 5", 1),
                        ("count 0 1", 0), ("count 0 0 0 0 0 0 0", 0), ("count 0 1 0 2 0 0 4", 1),
                        ("count 0 9999999999 0 0 0 0 0", 0),
                        ("count 0 1000000000 0 0 0 0 1", 0), ("count 0 1000000000 0 0 0 0 0", 1),
                        ("count 1 6 0 0 0 0 0", 1),
                        ("count 0 1 0 5", 0), ("count 1" + " 0" * 99, 1)):
            self.refused(desk, row, NoTable, at=at)
        self.refused(desk, "back", NoBack)

    def test_forget(self):
        desk = Desk("marks a2 b3 c2\ntable a b : 1 0 2 3 0 4\ntable b c : 1 3 0 0 2 4\ntable c : 3 7\ntable b : 4 0 6")
        self.assertEqual(desk.say("forget b"), "ok")
        self.assertEqual(desk.say("show"), "marks a2 c2\ntable a : 3 7\ntable c : 3 7\ntable c : 3 7")
        self.refused(desk, "forget b", NoName)
        self.assertEqual(desk.say("forget a"), "ok")
        self.assertEqual(desk.say("show"), "marks c2\ntable c : 3 7\ntable c : 3 7")
        self.refused(desk, "forget c", NoFrame)
        self.refused(desk, "forget a", NoName)
        self.assertEqual(desk.say("most 1"), "7/10")

    def test_join(self):
        text = "marks a2 b3 c2\ntable a b : 1 0 2 3 0 4\ntable b c : 1 3 0 0 2 4"
        for kinds, tables in (
            ("0 1", "table a b : 1 2 3 4\ntable b c : 1 3 2 4"), ("0 2", "table a b : 3 0 7 0\ntable b c : 3 7 0 0"),
            ("1 2", "table a b : 1 2 3 4\ntable b c : 1 3 2 4"),
        ):
            desk = Desk(text)
            self.assertEqual(desk.say(f"join b {kinds}"), "ok")
            self.assertEqual(desk.say("show"), "marks a2 b2 c2\n" + tables)
            self.refused(desk, f"join b {kinds}", NoFrame)
            self.assertEqual(desk.say("back"), "ok")
            self.assertEqual(desk.say("show"), text)

    def test_join_that_is_none(self):
        desk = Desk(TEXT)
        for row in ("join", "join wind", "join wind 0", "join wind 0 1 2", "join 0 1", "join wind 0 3", "join wind 3 0",
                    "join wind 0 -1", "join wind 00 1", "join wind 0 01", "join wind a b", "join wind 0,1",
                    "join wind  1",
                    "join wind 0 ", "join wind 01", "join  wind 0 1", "join wind 0 1 ", "join sun 0 9", "join rain 0 3",
                    "join rain 3 0", "join rain 0", "join rain 0 10", "join 0 1 wind", "join 0 wind 1",
                    "join wind 0 +1"):
            self.refused(desk, row, NoRow)
        for one, other in itertools.product("012", repeat=2):
            for name in ("rain", "", "Wind", "wind3", "sun2", "SUN", "win", "0", "1", ":", "show", "join", "wind\n",
                         "wi\tnd"):
                self.refused(desk, f"join {name} {one} {other}", NoName)
            self.refused(desk, f"join sun {one} {other}", NoFrame)
            if one >= other:
                self.refused(desk, f"join wind {one} {other}", NoFrame)
        self.refused(desk, "back", NoBack)

    def test_names_that_are_none(self):
        desk = Desk(TEXT)
        for name in ("rain", "", "Sun", "sun2", "wind3", "0", "1", "-1", "forget", "su", "sunn", ":", "all", "sun\n",
                     "\n",
                     "sun\twind", "sun,wind", "~", "a" * 100):
            self.refused(desk, f"forget {name}", NoName)
        self.refused(desk, "back", NoBack)
        alone = Desk("marks a2\ntable a : 1 0")
        self.refused(alone, "forget b", NoName)
        self.refused(alone, "forget a", NoFrame)
        self.refused(alone, "forget a a", NoRow)
        self.refused(alone, "forget b b", NoRow)

    def test_marks_named_like_rows(self):
        desk = Desk("marks show2 back3 sun2\ntable show back sun : 1 2 3 4 5 6 7 8 9 10 11 12")
        self.assertEqual(desk.say("join back 0 2"), "ok")
        self.assertEqual(desk.say("forget show"), "ok")
        self.assertEqual(desk.say("show"), "marks back2 sun2\ntable back sun : 24 28 12 14")
        self.assertEqual(desk.say("forget back"), "ok")
        self.assertEqual(desk.say("show"), "marks sun2\ntable sun : 36 42")

    def test_back(self):
        desk = Desk(TEXT)
        self.refused(desk, "back", NoBack)
        seen = []
        for row in ("count 1 0 1 5", "count 1 0 1 5", "join wind 1 2", "count 0 1 2 3 0", "forget sun", "count 1 6 0"):
            seen.append(desk.say("show"))
            self.assertEqual(desk.say(row), "ok")
        self.assertEqual(seen[1], seen[2])
        self.assertEqual(desk.say("show"), "marks wind2\ntable wind : 4 2\ntable wind : 6 0")
        while seen:
            for row in ("whole", "agree", "glued", "share", "shape"):
                desk.say(row)
            self.refused(desk, "forget rain", NoName)
            self.refused(desk, "turn", NoRow)
            self.assertEqual(desk.say("back"), "ok")
            self.assertEqual(desk.say("show"), seen.pop())
        self.refused(desk, "back", NoBack)
        self.assertEqual(desk.say("show"), TEXT)
        self.assertEqual(desk.say("forget wind"), "ok")
        self.assertEqual(desk.say("back"), "ok")
        self.refused(desk, "back", NoBack)

    def test_a_change_behind_one_taken_back(self):
        desk = Desk(TEXT)
        for row in ("forget sun", "back", "join wind 0 1", "back", "join wind 0 2"):
            self.assertEqual(desk.say(row), "ok")
        self.assertEqual(desk.say("show"), "marks sun2 wind2\ntable sun wind : 3 0 3 0\ntable wind : 6 0")
        self.assertEqual(desk.say("back"), "ok")
        self.assertEqual(desk.say("show"), TEXT)
        self.refused(desk, "back", NoBack)


class WalkTest(DeskCase):
    def changed(self, names, family, source):
        """A row that is to be taken, with the names and the family behind it; None where it is to be refused."""
        frame, tables = family
        word = source.choice(("count", "forget", "join", "count"))
        mark = source.randrange(len(frame))
        if word == "forget":
            if len(frame) == 1:
                return f"forget {names[mark]}", None
            return f"forget {names[mark]}", ([name for name in names if name != names[mark]], forgotten(family, mark))
        if word == "join":
            one, other = source.choice(((0, 1), (0, 2), (1, 2), (1, 0), (2, 2)))
            row = f"join {names[mark]} {one} {other}"
            return row, (names, joined(family, mark, one, other)) if frame[mark] == 3 and one < other else None
        at = source.randrange(len(tables))
        group, counts = tables[at]
        others = counts_of(sum(counts), len(counts) + source.choice((0, 0, 0, 1)), source)
        row = f"count {at} " + " ".join(str(count) for count in others)
        if len(others) != len(counts):
            return row, None
        return row, (names, family_of(frame, [*tables[:at], (group, others), *tables[at + 1:]]))

    def test_changes_one_behind_the_other(self):
        source = random.Random(5)
        taken = refused = 0
        for family in itertools.chain(families_over(some_lists(40, 6), 7), families_over(some_trees(40, 8), 9)):
            names = some_names(len(family[0]), source)
            desk = Desk(slow_text(names, family))
            states = [(names, family)]
            for step in range(12):
                row, state = self.changed(*states[-1], source)
                if state is None:
                    refused += 1
                    with self.assertRaises(GlueError):
                        desk.say(row)
                else:
                    taken += 1
                    self.assertEqual(desk.say(row), "ok")
                    states.append(state)
                self.assertEqual(desk.say("show"), slow_text(*states[-1]))
                if len(states) > 1 and source.random() < 0.3:
                    states.pop()
                    self.assertEqual(desk.say("back"), "ok")
                    self.assertEqual(desk.say("show"), slow_text(*states[-1]))
            while len(states) > 1:
                states.pop()
                self.assertEqual(desk.say("back"), "ok")
                self.assertEqual(desk.say("show"), slow_text(*states[-1]))
            self.refused(desk, "back", NoBack)
        self.assertGreater(taken, 300)
        self.assertGreater(refused, 100)

    def test_two_desks(self):
        one, other, third = Desk(TEXT), Desk(TEXT), Desk(KNOT)
        self.assertEqual(one.say("forget sun"), "ok")
        self.assertEqual([other.say("show"), third.say("show")], [TEXT, KNOT])
        self.refused(other, "back", NoBack)
        self.assertEqual(other.say("count 1 0 1 5"), "ok")
        self.assertEqual(third.say("forget b"), "ok")
        self.assertEqual(one.say("show"), "marks wind3\ntable wind : 1 0 5\ntable wind : 1 0 5")
        self.assertEqual(one.say("back"), "ok")
        self.assertEqual([one.say("show"), other.say("show")], [TEXT, UNLIKE])
        self.refused(one, "back", NoBack)
        self.assertEqual([other.say("back"), third.say("back")], ["ok", "ok"])
        self.assertEqual([other.say("show"), third.say("show")], [TEXT, KNOT])

    def test_asked_twice(self):
        source = random.Random(10)
        for family in mixed_families(5, 11):
            desk = Desk(slow_text(some_names(len(family[0]), source), family))
            self.assertEqual([desk.say(row) for row in ASKED], [desk.say(row) for row in ASKED])


class MadeTest(unittest.TestCase):
    def refused(self, text, error, **fields):
        with self.assertRaises(error, msg=repr(text)) as caught:
            Desk(text)
        self.assertEqual(vars(caught.exception), fields, repr(text))

    def test_no_text(self):
        for thing in (None, 5, True, [TEXT], b"marks a2\ntable a : 1 0", "", "marks", "show",
                      "marks a2 a2\ntable a : 1 0"):
            self.refused(thing, NoText, line=0)
        self.refused(TEXT + "\n", NoText, line=3)
        self.refused(TEXT.replace("table wind", "table rain"), NoText, line=2)
        self.refused(TEXT.replace("table sun wind", "table wind sun"), NoText, line=1)

    def test_no_family(self):
        self.refused("marks a4\ntable a : 1 0", NoFrame)
        self.refused("\n".join(["marks a2"] + ["table a : 1 0"] * 9), TooMany)
        self.refused("marks a2 b2\ntable a : 1 0", NoTable, at=1)
        self.refused("marks a2", NoTable, at=0)
        self.refused("marks a2\ntable a : 1 0\ntable a : 2 0", NoTable, at=1)

    def test_any_counts(self):
        source = random.Random(12)
        for total in (1, 7, 10 ** 9):
            family = any_family((3, 2), [(0,), (1,), (0, 1)], total, source)
            text = slow_text(["x", "y"], family)
            self.assertEqual([Desk(text).say("show"), Desk(text).say("whole")], [text, str(total)])


if __name__ == "__main__":
    unittest.main()
