"""Tables that agree two by two and are never glued, over groups that are no tree."""

from gluedtables.errors import NoTree
from gluedtables.frames import MOST_MARKS, frame_of, rows_of
from gluedtables.glue import glued
from gluedtables.shapes import marks_in, shape
from gluedtables.tables import family_of


def never(groups):
    """A tuple (family, bet) over these groups; NoTree of a tree, then refused as a family is."""
    told = shape(groups)
    if told[0] == "tree":
        raise NoTree("the groups are a tree")
    frame = frame_for(groups)
    family = family_of(frame, [(group, counts_on(frame, group, told)) for group in groups])
    return (family, glued(family)[1])


def frame_for(groups):
    """The frame of all marks up to the greatest, each of two kinds; NoFrame where they are too many."""
    # One mark too many is refused like any more, and a list as long as a greatest mark might be has no room.
    return frame_of([2] * min(marks_in(groups)[-1] + 1, MOST_MARKS + 1))


def counts_on(frame, group, told):
    """The counts on a group by a ring or a knot, told as a shape."""
    rows = rows_of(frame, group)
    if told[0] == "ring":
        return [ring_count(told[1], group, row) for row in rows]
    return [knot_count(told[1], group, row) for row in rows]


def ring_count(ring, group, row):
    """The count of a row by a ring: side by side the same kind, but the last and the first unlike ones."""
    kinds = []
    for mark, kind in zip(group, row):
        if mark in ring:
            kinds.append(kind)
        elif kind != 0:
            return 0
    if len(kinds) < 2:
        return 2 - len(kinds)
    at_the_ends = ring[0] in group and ring[-1] in group
    return 1 if (kinds[0] != kinds[1]) == at_the_ends else 0


def knot_count(knot, group, row):
    """The count of a row by a knot: no two of its marks have the kind 1 at once."""
    ones = [mark for mark, kind in zip(group, row) if kind == 1]
    if len(ones) == 0:
        return len(knot) - 1 - len([mark for mark in group if mark in knot])
    return 1 if len(ones) == 1 and ones[0] in knot else 0
