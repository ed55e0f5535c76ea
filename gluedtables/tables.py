"""Tables and families of them, their sums, and whether they agree."""

from gluedtables.errors import NoTable, TooMany
from gluedtables.frames import frame_of, is_group, is_whole, rows_of, seen

MOST_TABLES = 8
MOST_TABLE_ROWS = 60
MOST_WHOLE = 1000000000


def family_of(frame, tables):
    """The family of a frame and a list of tables, or the refusal that is due first."""
    made = frame_of(frame)
    drafts = [draft_of(thing) for thing in tables]
    check_size(made, drafts)
    check_tables(made, drafts)
    check_marks(made, drafts)
    return (made, tuple(drafts))


def draft_of(thing):
    """A thing as (group, counts), neither looked at yet; None where it is no tuple of two things."""
    if not isinstance(thing, tuple) or len(thing) != 2:
        return None
    return (as_tuple(thing[0]), as_tuple(thing[1]))


def as_tuple(thing):
    """A list as a tuple of the same things, any other thing as it is."""
    return tuple(thing) if isinstance(thing, (list, tuple)) else thing


def group_rows(frame, draft):
    """How many rows the group of a draft has; 0 where the draft or its group is none."""
    if draft is None or not is_group(frame, draft[0]):
        return 0
    return len(rows_of(frame, draft[0]))


def check_size(frame, drafts):
    """Refuse too many tables, or too many rows of their groups together."""
    if len(drafts) > MOST_TABLES:
        raise TooMany("a family has at most eight tables")
    if sum([group_rows(frame, draft) for draft in drafts]) > MOST_TABLE_ROWS:
        raise TooMany("the groups of a family have at most sixty rows")


def check_tables(frame, drafts):
    """Refuse the first draft that is no table or whose whole is unlike the first one's."""
    for number, draft in enumerate(drafts):
        if not is_table(frame, draft) or sum(draft[1]) != sum(drafts[0][1]):
            raise NoTable(number)


def is_table(frame, draft):
    """Whether a draft is a table by itself."""
    rows = group_rows(frame, draft)
    if rows == 0 or not isinstance(draft[1], tuple) or len(draft[1]) != rows:
        return False
    for count in draft[1]:
        if not is_whole(count) or count < 0:
            return False
    return 1 <= sum(draft[1]) <= MOST_WHOLE


def check_marks(frame, tables):
    """Refuse a family with a mark in no group, and so one without tables."""
    for mark in range(len(frame)):
        if not any([mark in table[0] for table in tables]):
            raise NoTable(len(tables))


def whole(family):
    """The sum of the counts of each table of a family."""
    return sum(family[1][0][1])


def groups_of(family):
    """The groups of the tables of a family, in their order."""
    return [table[0] for table in family[1]]


def sums(frame, table, part):
    """The sums of a table on a part of its group, one for each row of the part."""
    places = [seen(table[0], row, part) for row in rows_of(frame, table[0])]
    return added_up(frame, part, places, table[1])


def added_up(frame, group, places, counts):
    """For each row of a group the sum of the counts whose place, told for each count, is this row."""
    totals = {}
    for row in rows_of(frame, group):
        totals[row] = 0
    for place, count in zip(places, counts):
        totals[place] = totals[place] + count
    return list(totals.values())


def overlap(one, other):
    """The marks in both groups."""
    return tuple([mark for mark in one if mark in other])


def unlike_row(frame, one, other):
    """The first row of the overlap on which the sums of two tables differ, or None."""
    part = overlap(one[0], other[0])
    for row, left, right in zip(rows_of(frame, part), sums(frame, one, part), sums(frame, other, part)):
        if left != right:
            return row
    return None


def agree(family):
    """None where each two tables agree; else the first two that don't, with the first row that shows it."""
    tables = family[1]
    for first in range(len(tables)):
        for second in range(first + 1, len(tables)):
            row = unlike_row(family[0], tables[first], tables[second])
            if row is not None:
                return (first, second, row)
    return None
