"""Frames, groups of marks, and their rows."""

from gluedtables.errors import NoFrame

MOST_MARKS = 6
MOST_ROWS = 64


def is_whole(thing):
    """Whether a thing is a whole number: Python counts truths as numbers, here they are none."""
    return isinstance(thing, int) and not isinstance(thing, bool)


def frame_of(kinds):
    """The frame that a thing tells, or NoFrame."""
    if not isinstance(kinds, (list, tuple)):
        raise NoFrame("a frame is told by a list or a tuple")
    if not 1 <= len(kinds) <= MOST_MARKS:
        raise NoFrame("a frame has one to six marks")
    product = 1
    for number in kinds:
        if not is_whole(number) or not 2 <= number <= 3:
            raise NoFrame("a mark has 2 or 3 kinds")
        product = product * number
    if product > MOST_ROWS:
        raise NoFrame("a frame has at most 64 rows")
    return tuple(kinds)


def is_group(frame, thing):
    """Whether a thing is a group of marks of the frame."""
    if not isinstance(thing, tuple) or len(thing) == 0:
        return False
    last = -1
    for mark in thing:
        if not is_whole(mark) or not last < mark < len(frame):
            return False
        last = mark
    return True


def rows_of(frame, group):
    """The rows of a group, sorted; of no marks the one row without kinds."""
    rows = [()]
    for mark in group:
        longer = []
        for row in rows:
            for kind in range(frame[mark]):
                longer.append(row + (kind,))
        rows = longer
    return rows


def all_marks(frame):
    """The group of all marks."""
    return tuple(range(len(frame)))


def all_rows(frame):
    """The rows of all marks, sorted."""
    return rows_of(frame, all_marks(frame))


def seen(group, row, part):
    """A row of a group, seen on a part of the group."""
    return tuple([row[group.index(mark)] for mark in part])
