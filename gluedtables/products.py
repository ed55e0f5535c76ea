"""Glued tables, and the product that glues a tree of tables that agree."""

from gluedtables.errors import NoTree, Unlike
from gluedtables.filling import are_counts, made_whole
from gluedtables.frames import all_marks, all_rows, is_whole, rows_of, seen
from gluedtables.shapes import shape
from gluedtables.tables import agree, groups_of, overlap, sums


def is_glued(family, table):
    """Whether a tuple (numbers, times), whoever wrote it, is a glued table of the family."""
    if not isinstance(table, tuple) or len(table) != 2 or not is_numbered(family, table[0], table[1]):
        return False
    return sums_on_groups(family, table[0]) == times_over(family, table[1])


def is_numbered(family, numbers, times):
    """Whether times is from 1 on, and numbers has a whole number from 0 on for each row of all marks."""
    return is_whole(times) and times >= 1 and are_counts(numbers, len(all_rows(family[0])))


def sums_on_groups(family, numbers):
    """The sums of numbers on all rows on the group of each table, a list for each."""
    frame = family[0]
    return [sums(frame, (all_marks(frame), numbers), table[0]) for table in family[1]]


def times_over(family, times):
    """The counts of each table, times times, a list for each."""
    lists = []
    for table in family[1]:
        lists.append([count * times for count in table[1]])
    return lists


def product(family):
    """The product of a family, a glued table; NoTree or Unlike where there is none."""
    told = shape(groups_of(family))
    if told[0] != "tree":
        raise NoTree("the groups are no tree")
    found = agree(family)
    if found is not None:
        raise Unlike(found[0], found[1], found[2])
    return made_whole(fractions_of(family, told[1]))


def fractions_of(family, pairs):
    """For each row of all marks the fraction (top, bottom) that the product has there."""
    frame = family[0]
    tops = [factor(frame, table, table[0]) for table in family[1]]
    bottoms = [shared_factor(family, pair) for pair in pairs]
    fractions = []
    for row in all_rows(frame):
        top = factors_at(tops, all_marks(frame), row)
        # A sum may be 0 only where the counts that it sums are: there nothing is divided.
        bottom = 1 if top == 0 else factors_at(bottoms, all_marks(frame), row)
        fractions.append((top, bottom))
    return fractions


def factor(frame, table, part):
    """A tuple of a part of a table's group and a dict with the sum on each of its rows."""
    return (part, dict(zip(rows_of(frame, part), sums(frame, table, part))))


def shared_factor(family, pair):
    """The factor of a group's table on what it has in common with its keeper."""
    tables = family[1]
    table = tables[pair[0]]
    return factor(family[0], table, overlap(table[0], tables[pair[1]][0]))


def factors_at(factors, marks, row):
    """The product of all factors on a row of all marks."""
    result = 1
    for part, numbers in factors:
        result = result * numbers[seen(marks, row, part)]
    return result
