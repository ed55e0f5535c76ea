"""Families written as texts, and read from them."""

from gluedtables.errors import NoText
from gluedtables.tables import family_of

LETTERS = "abcdefghijklmnopqrstuvwxyz"
FIGURES = "0123456789"
MOST_LETTERS = 8
MOST_FIGURES = 10


def show_family(names, family):
    """The text of a family whose marks have these names."""
    words = ["marks"]
    for name, kinds in zip(names, family[0]):
        words.append(f"{name}{kinds}")
    lines = [" ".join(words)]
    for table in family[1]:
        lines.append(table_line(names, table))
    return "\n".join(lines)


def table_line(names, table):
    """The line of a table."""
    words = ["table"] + [names[mark] for mark in table[0]] + [":"] + [str(count) for count in table[1]]
    return " ".join(words)


def read_family(text):
    """A tuple (names, family) that a text tells; NoText, or refused as a family is."""
    if not isinstance(text, str):
        raise NoText(0)
    lines = text.split("\n")
    marks = marks_told(lines[0])
    if marks is None:
        raise NoText(0)
    names = [word[:-1] for word in marks]
    tables = []
    for line in lines[1:]:
        table = table_told(names, line)
        if table is None:
            raise NoText(len(tables) + 1)
        tables.append(table)
    return (names, family_of([int(word[-1]) for word in marks], tables))


def marks_told(line):
    """The words of the first line of a text that tell a mark each, or None where it doesn't fit."""
    words = line.split(" ")
    marks = words[1:]
    if words[0] != "marks" or len(marks) == 0 or not all([is_mark(word) for word in marks]):
        return None
    return marks if len(set([word[:-1] for word in marks])) == len(marks) else None


def is_mark(word):
    """Whether a word is a name with a figure behind it, whether or not a mark may have so many kinds."""
    return is_made_of(word[:-1], LETTERS, MOST_LETTERS) and word[-1] in FIGURES


def is_made_of(word, signs, most):
    """Whether a word is of these signs alone, from one up to so many."""
    return 1 <= len(word) <= most and all([sign in signs for sign in word])


def is_number(word):
    """Whether a word is a number, as numbers are written here."""
    return is_made_of(word, FIGURES, MOST_FIGURES) and (word == "0" or word[0] != "0")


def table_told(names, line):
    """The group and the counts that a line tells, or None where it doesn't fit."""
    words = line.split(" ")
    if words[0] != "table" or ":" not in words:
        return None
    end = words.index(":")
    group = group_told(names, words[1:end])
    numbers = words[end + 1:]
    if group is None or len(numbers) == 0 or not all([is_number(word) for word in numbers]):
        return None
    return (group, [int(word) for word in numbers])


def group_told(names, words):
    """The group of marks that some words tell, one name at least, in the names' order, or None."""
    if len(words) == 0 or not all([word in names for word in words]):
        return None
    group = [names.index(word) for word in words]
    return group if group == sorted(set(group)) else None
