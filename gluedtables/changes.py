"""Families made of families: a mark forgotten, kinds joined, marks exchanged, two families added."""

from gluedtables.errors import NoFrame, NoTable
from gluedtables.frames import rows_of, seen
from gluedtables.shapes import without
from gluedtables.tables import added_up, family_of, sums


def forgotten(family, mark):
    """The family without a mark; NoFrame where it is the only one."""
    tables = []
    for table in family[1]:
        rest = without(table[0], mark)
        if len(rest) > 0:
            tables.append(([down(other, mark) for other in rest], sums(family[0], table, rest)))
    frame = [kinds for place, kinds in enumerate(family[0]) if place != mark]
    return family_of(frame, tables)


def down(number, gone):
    """A number, one less where it is above the one that is gone."""
    return number - 1 if number > gone else number


def joined(family, mark, one, other):
    """The family in which two kinds of a mark with three are one; NoFrame where they can't be joined."""
    kinds = list(family[0])
    if kinds[mark] != 3 or not 0 <= one < other <= 2:
        raise NoFrame("two kinds, the first one less, of a mark with three are joined")
    kinds[mark] = 2
    tables = []
    for group, counts in family[1]:
        places = [with_joined(group, row, mark, one, other) for row in rows_of(family[0], group)]
        tables.append((group, added_up(kinds, group, places, counts)))
    return family_of(kinds, tables)


def with_joined(group, row, mark, one, other):
    """A row of a group, once two kinds of a mark are joined."""
    changed = list(row)
    if mark in group:
        place = group.index(mark)
        changed[place] = one if row[place] == other else down(row[place], other)
    return tuple(changed)


def exchanged(family, order):
    """The family in which each mark k has become the mark order[k]."""
    frame = [family[0][order.index(mark)] for mark in range(len(order))]
    tables = []
    for group, counts in family[1]:
        moved = [order[mark] for mark in group]
        rising = sorted(moved)
        places = [seen(moved, row, rising) for row in rows_of(family[0], group)]
        tables.append((rising, added_up(frame, rising, places, counts)))
    return family_of(frame, tables)


def added(one, other):
    """Two families of the same frame and groups, added count by count; NoTable where they aren't such."""
    if one[0] != other[0] or len(one[1]) != len(other[1]):
        raise NoTable(0)
    tables = []
    for left, right in zip(one[1], other[1]):
        if left[0] != right[0]:
            raise NoTable(len(tables))
        tables.append((left[0], [count + more for count, more in zip(left[1], right[1])]))
    return family_of(one[0], tables)
