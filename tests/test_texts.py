"""Points 2, 6 and 22: families written as texts, and read."""

import copy
import itertools
import random
import unittest

from gluedtables.errors import GlueError, NoFrame, NoTable, NoText, TooMany
from gluedtables.tables import family_of
from gluedtables.texts import read_family, show_family
from samples import mixed_families, slow_text, some_names, wide_families

TEXT = "marks sun2 wind3\ntable sun wind : 1 0 2 0 0 3\ntable wind : 1 0 5"
FAMILY = family_of((2, 3), [((0, 1), (1, 0, 2, 0, 0, 3)), ((1,), (1, 0, 5))])
SIGNS = [chr(code) for code in range(32, 127)] + ["\n"]


def with_line(at, line):
    """The text with another line at a place."""
    lines = TEXT.split("\n")
    lines[at] = line
    return "\n".join(lines)


def is_slow_number(word):
    """Whether a word is a number, by the words of point 22."""
    return word.isascii() and word.isdigit() and len(word) <= 10 and word == str(int(word))


def slow_marks(line):
    """The names that the first line tells, or None."""
    word, *marks = line.split(" ")
    names = [mark[:-1] for mark in marks]
    fits = all(name.isascii() and name.isalpha() and name.islower() and len(name) <= 8 for name in names)
    figures = all(mark[-1:].isascii() and mark[-1:].isdigit() for mark in marks)
    return names if word == "marks" and names and fits and figures and len(set(names)) == len(names) else None


def is_slow_table(names, line):
    """Whether a line tells a table by itself."""
    head, colon, tail = line.partition(" : ")
    word, *group = head.split(" ")
    counts = tail.split(" ")
    if word != "table" or not colon or not group or not all(name in names for name in group):
        return False
    places = [names.index(name) for name in group]
    return places == sorted(set(places)) and all(is_slow_number(count) for count in counts)


def slow_line(text):
    """The number of the first line that doesn't fit, or None."""
    lines = text.split("\n")
    names = slow_marks(lines[0])
    if names is None:
        return 0
    for number, line in enumerate(lines[1:], 1):
        if not is_slow_table(names, line):
            return number
    return None


class ShowTest(unittest.TestCase):
    def test_by_hand(self):
        self.assertEqual(show_family(["sun", "wind"], FAMILY), TEXT)
        great = family_of((2,), [((0,), (0, 10 ** 9))])
        self.assertEqual(show_family(["a"], great), "marks a2\ntable a : 0 1000000000")
        family = family_of((2, 2, 3), [((0, 2), (1, 0, 0, 0, 0, 0)), ((1,), (0, 1)), ((0, 2), (0, 0, 0, 0, 0, 1))])
        self.assertEqual(
            show_family(["table", "marks", "abcdefgh"], family),
            "marks table2 marks2 abcdefgh3\ntable table abcdefgh : 1 0 0 0 0 0\ntable marks : 0 1\n"
            "table table abcdefgh : 0 0 0 0 0 1",
        )

    def test_what_is_handed_in_stays(self):
        names = ["wind", "sun"]
        kept = copy.deepcopy((names, FAMILY))
        text = "marks wind2 sun3\ntable wind sun : 1 0 2 0 0 3\ntable sun : 1 0 5"
        self.assertEqual(show_family(names, FAMILY), text)
        self.assertEqual((names, FAMILY), kept)


class ReadTest(unittest.TestCase):
    def check(self, names, family):
        """Writes a family and reads it again."""
        kept = copy.deepcopy((names, family))
        text = show_family(names, family)
        self.assertEqual(text, slow_text(names, family))
        told = read_family(text)
        self.assertEqual(told, (names, family))
        self.assertEqual([type(thing) for thing in (told, *told)], [tuple, list, tuple])
        self.assertEqual(show_family(*told), text)
        self.assertEqual((names, family), kept)

    def refused(self, text, error, **fields):
        with self.assertRaises(error, msg=repr(text)) as caught:
            read_family(text)
        self.assertEqual(vars(caught.exception), fields, repr(text))

    def no_text(self, text, line):
        if isinstance(text, str):
            self.assertEqual(slow_line(text), line, repr(text))
        self.refused(text, NoText, line=line)

    def test_by_hand(self):
        self.assertEqual(read_family(TEXT), (["sun", "wind"], FAMILY))
        self.assertEqual(read_family("marks a2\ntable a : 1 0"), (["a"], family_of((2,), [((0,), (1, 0))])))

    def test_many_families(self):
        source = random.Random(1)
        for family in itertools.chain(mixed_families(40, 2), wide_families(3)):
            self.check(some_names(len(family[0]), source), family)

    def test_names(self):
        for name in ("a", "z", "abcdefgh", "zzzzzzzz", "marks", "table", "ab", "count"):
            self.check([name], family_of((3,), [((0,), (0, 7, 0))]))
            self.check(["sun", name], FAMILY)
        for mark in ("2", "abcdefghi2", "A2", "aB2", "a_2", "a-2", "a.2", "a22", "2a2", "a2b2", "a", "aa", "a2 a2",
                     "a2 a3",
                     "a2 b2 a2", ":2", "a:2", "a 2", "a2 ", " a2", "a2  b2", "", " ", "a2.", "a-", "a+2", "a2,b2",
                     "a02"):
            self.no_text(f"marks {mark}\ntable a : 1 0", 0)

    def test_the_first_line(self):
        for line in ("", " ", "marks", "marks ", "mark sun2 wind3", "Marks sun2 wind3", "MARKS sun2 wind3",
                     "sun2 wind3",
                     " marks sun2 wind3", "marks sun2 wind3 ", "marks  sun2 wind3", "marks sun2  wind3",
                     "table sun : 1",
                     "marks sun2 wind3 : 1", "marks sun2 wind", "marks sun wind", "marks sun2 sun3", "markssun2 wind3",
                     "marks 2sun wind3", "marks sun2,wind3", "marks sun2\twind3", "marks sun2 wind3\r",
                     "marks:sun2 wind3"):
            self.no_text(with_line(0, line), 0)
            self.no_text(line, 0)
            # The first line that doesn't fit is told, whatever is behind it.
            self.no_text(line + "\nnothing\n", 0)

    def test_table_lines(self):
        for line in ("", " ", "table", "table ", "table :", "table : 1 0 5", "table wind", "table wind :",
                     "table wind : ",
                     "table wind 1 0 5", "table wind: 1 0 5", "table wind :1 0 5", "table wind  : 1 0 5",
                     "table wind :  1 0 5", "table  wind : 1 0 5", " table wind : 1 0 5", "table wind : 1 0 5 ",
                     "table wind : 1  0 5", "tables wind : 1 0 5", "Table wind : 1 0 5", "marks wind : 1 0 5",
                     "wind : 1 0 5", "table rain : 1 0 5", "table wind3 : 1 0 5", "table Wind : 1 0 5",
                     "table wind sun : 1 0 2 0 0 3", "table sun sun : 1 5", "table sun wind sun : 1",
                     "table win : 1 0 5",
                     "table wind wind : 1 0 5", "table wind : 1 0 5 : 1 0 5", "table wind : : 1 0 5",
                     "table : wind 1 0 5",
                     "table wind : 1 : 5", "table wind : 1 0 wind", "table wind : 1 0 5\r", "table wind\t: 1 0 5",
                     "table wind ; 1 0 5", "table wind : 1,0,5", "table sun rain : 1 5", "table 1 : 1 0 5", "table"):
            self.no_text(with_line(2, line), 2)
            self.no_text(with_line(1, line), 1)
            self.no_text(with_line(1, line) + "\nnothing", 1)

    def test_numbers(self):
        for word in ("00", "01", "05", "005", "0000000000", "00000000001", "12345678901", "99999999999", "-1", "+1",
                     "-0", "1.0",
                     "1e3", "0x1", "1_0", "x", "one", "5a", "a5", "'5'", "5-", "--5", "5+0", "()", "1/1", "10000000000",
                     "9" * 60, "0" * 60):
            for line in (f"table wind : {word} 0 5", f"table wind : 1 {word} 5", f"table wind : 1 0 {word}",
                         f"table wind : {word}"):
                self.no_text(with_line(2, line), 2)
        for word in ("0", "5", "9", "10", "999", "1000000000", "9999999999", "1234567890"):
            self.assertIsNone(slow_line(with_line(2, f"table wind : {word} 0 0")))
            self.refused(with_line(2, f"table wind : {word} 0 0"), NoTable, at=1)
        for word in ("1000000000", "999999999", "1"):
            self.assertEqual(read_family(f"marks a2\ntable a : 0 {word}")[1][1][0][1], (0, int(word)))

    def test_line_ends(self):
        self.no_text("\n" + TEXT, 0)
        self.no_text(TEXT + "\n", 3)
        self.no_text(TEXT + "\n\n", 3)
        self.no_text(TEXT.replace("\n", "\n\n"), 1)
        self.no_text(with_line(1, ""), 1)
        self.no_text(TEXT.replace("\n", "\r\n"), 0)
        self.no_text(TEXT.replace("\n", "\r"), 0)
        self.no_text(TEXT.replace("\n", " "), 0)
        self.no_text(TEXT.replace("\n", "\n "), 1)
        self.no_text("marks a2\n", 1)
        self.no_text("\n", 0)
        self.no_text("", 0)
        # Other signs at which Python parts lines are no line ends here.
        for sign in ("\x0b", "\x0c", "\x1c", "\x85", "\u2028"):
            self.no_text(TEXT.replace("\n", sign), 0)

    def test_the_first_of_several_lines(self):
        lines = TEXT.split("\n") + ["table sun : 3 3", "table sun : 3 3"]
        self.assertEqual(read_family("\n".join(lines))[1][1][3], ((0,), (3, 3)))
        for one, other in itertools.combinations(range(5), 2):
            spoiled = list(lines)
            spoiled[one] = spoiled[other] = "table sun : 03"
            self.no_text("\n".join(spoiled), one)

    def test_what_is_no_text(self):
        for thing in (None, 0, 5, True, [], [TEXT], (TEXT,), {}, {TEXT: 1}, b"marks a2\ntable a : 1 0", 1.5, object(),
                      FAMILY,
                      TEXT.split("\n"), str):
            self.no_text(thing, 0)

    def test_signs_outside(self):
        for sign in ("\u0661", "\u00b2", "\uff11", "\u00e9", "\u00aa", "\u0131"):
            self.no_text(f"marks a{sign}\ntable a : 1 0", 0)
            self.no_text(f"marks {sign}2\ntable {sign} : 1 0", 0)
            self.no_text(f"marks a2\ntable a : {sign} 0", 1)

    def test_one_sign_changed(self):
        source = random.Random(4)
        lines = []
        read = 0
        for at in range(len(TEXT)):
            for sign in ["", *source.sample(SIGNS, 25), " ", "\n", "0", ":", TEXT[at] * 2]:
                text = TEXT[:at] + sign + TEXT[at + 1:]
                line = slow_line(text)
                lines.append(line)
                if line is not None:
                    self.no_text(text, line)
                    continue
                try:
                    names, family = read_family(text)
                except GlueError as error:
                    self.assertNotIsInstance(error, NoText)
                else:
                    read += 1
                    self.assertEqual(show_family(names, family), text)
        for line in (0, 1, 2, None):
            self.assertGreater(lines.count(line), 50)
        self.assertGreater(read, 20)

    def test_frames_that_are_none(self):
        for figure in "01456789":
            self.refused(f"marks a{figure}\ntable a : 1 0", NoFrame)
            self.refused(f"marks a2 b{figure}\ntable a : 1 0", NoFrame)
            self.refused(f"marks a2 b{figure}", NoFrame)
        self.refused("marks a2 b2 c2 d2 e2 f2 g2\ntable a : 1 0", NoFrame)
        self.refused("marks a3 b3 c3 d3\ntable a : 1 0 0", NoFrame)
        self.refused("marks a2 b2 c2 d2 e2 f3\ntable a : 1 0", NoFrame)
        self.refused("marks a4\n" + "\n".join(["table a : 1 0"] * 9), NoFrame)
        self.no_text("marks a4\ntable a : 01 0", 1)
        self.no_text("marks a4\ntable b : 1 0", 1)

    def test_too_many(self):
        for many in (9, 10, 50):
            self.refused("\n".join(["marks a2"] + ["table a : 1 0"] * many), TooMany)
            self.refused("\n".join(["marks a2 b2"] + ["table a : 1 0 5"] * many), TooMany)
            self.no_text("\n".join(["marks a2"] + ["table a : 1 0"] * many + ["table"]), many + 1)
        self.assertEqual(len(read_family("\n".join(["marks a2"] + ["table a : 1 0"] * 8))[1][1]), 8)
        wide = "table a b c d e : 1" + " 0" * 31
        self.refused("\n".join(["marks a2 b2 c2 d2 e2", wide, wide]), TooMany)
        self.refused("\n".join(["marks a2 b2 c2 d2 e2", "table a : 0 0", wide, wide]), TooMany)
        self.refused("marks a2 b2 c2 d2 e2 f2\ntable a b c d e f : 1", TooMany)

    def test_tables_that_are_none(self):
        self.refused("marks a2", NoTable, at=0)
        self.refused("marks a2 b3", NoTable, at=0)
        self.refused("marks a2 b2\ntable a : 1 0", NoTable, at=1)
        self.refused("marks a2 b2\ntable b : 1 0\ntable b : 1 0", NoTable, at=2)
        self.refused("marks a2\ntable a : 1", NoTable, at=0)
        self.refused("marks a2\ntable a : 1 0 0", NoTable, at=0)
        self.refused("marks a2\ntable a : 0 0", NoTable, at=0)
        self.refused("marks a2\ntable a : 1 1000000000", NoTable, at=0)
        self.refused("marks a2\ntable a : 9999999999 0", NoTable, at=0)
        self.refused("marks a2\ntable a : 1 0\ntable a : 1 1", NoTable, at=1)
        self.refused("marks a2\ntable a : 1 0\ntable a : 0 1\ntable a : 1", NoTable, at=2)
        self.refused("marks a2 b2\ntable a : 1 0\ntable a : 1", NoTable, at=1)
        self.no_text("marks a2\ntable a : 1\ntable b : 1", 2)

    def test_what_was_told_changed_afterwards(self):
        told = read_family(TEXT)
        told[0].reverse()
        told[0].append("rain")
        self.assertEqual(read_family(TEXT), (["sun", "wind"], FAMILY))


if __name__ == "__main__":
    unittest.main()
