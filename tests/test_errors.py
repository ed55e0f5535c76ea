"""The interface: the error classes, their bases and their fields."""

import unittest

from gluedtables import errors

PLAIN = ["NoFrame", "TooMany", "NoTree", "NoRow", "NoName", "NoBack"]
FIELDS = [
    ("NoTable", {"at": 3}),
    ("Unlike", {"first": 0, "second": 2, "row": (1, 0)}),
    ("NoGlue", {"bet": [[1, -1], [0, 2]]}),
    ("NoText", {"line": 4}),
]
NAMES = PLAIN + [name for name, fields in FIELDS]


class ErrorsTest(unittest.TestCase):
    def test_all_stand_straight_under_glue_error(self):
        self.assertEqual(errors.GlueError.__bases__, (ValueError,))
        for name in NAMES:
            with self.subTest(name):
                self.assertEqual(getattr(errors, name).__bases__, (errors.GlueError,))

    def test_none_stands_under_another_one(self):
        for one in NAMES:
            for other in NAMES:
                under = issubclass(getattr(errors, one), getattr(errors, other))
                self.assertEqual(under, one == other, (one, other))

    def test_plain_ones_are_made_of_nothing(self):
        for name in PLAIN:
            with self.subTest(name), self.assertRaises(errors.GlueError):
                raise getattr(errors, name)()

    def test_fields_are_set_when_made(self):
        for name, fields in FIELDS:
            with self.subTest(name):
                error = getattr(errors, name)(*fields.values())
                for field, value in fields.items():
                    self.assertEqual(getattr(error, field), value)

    def test_fields_are_there_when_caught_as_value_error(self):
        for name, fields in FIELDS:
            with self.subTest(name), self.assertRaises(ValueError) as caught:
                raise getattr(errors, name)(*fields.values())
            for field, value in fields.items():
                self.assertEqual(getattr(caught.exception, field), value)


if __name__ == "__main__":
    unittest.main()
