"""The shape of groups of marks: a tree, or a ring or a knot of marks that no tree has."""

from gluedtables.filling import are_whole
from gluedtables.frames import is_whole

LEAST_RING = 4
LEAST_KNOT = 3


def shape(groups):
    """The shape of a list of groups, as a tuple of a word and a list."""
    pairs = pairs_off(groups)
    if is_all_off(groups, pairs):
        return ("tree", pairs)
    marks = marks_of_no_tree(groups)
    if is_knot(groups, marks):
        return ("knot", marks)
    return ("ring", in_a_ring(groups, marks))


def is_shown(groups, told):
    """Whether a shape, whoever told it, is one of the groups."""
    if not isinstance(told, tuple) or len(told) != 2:
        return False
    word = told[0]
    if word == "tree":
        return isinstance(told[1], list) and takes_off(groups, told[1])
    if not are_whole(told[1]) or len(set(told[1])) != len(told[1]):
        return False
    if word == "ring":
        return is_ring(groups, told[1])
    return word == "knot" and is_knot(groups, told[1])


def pairs_off(groups):
    """The pairs (group's number, keeper's number) by which the first groups that can be are taken off."""
    left = list(range(len(groups)))
    pairs = []
    pair = first_pair(groups, left)
    while pair is not None:
        pairs.append(pair)
        left.remove(pair[0])
        pair = first_pair(groups, left)
    return pairs


def is_all_off(groups, pairs):
    """Whether taking off these pairs leaves one group alone."""
    return len(groups) - len(pairs) <= 1


def first_pair(groups, left):
    """The first group left that can be taken off, with its first keeper; None where none can be."""
    for number in left:
        for keeper in left:
            if is_keeper(groups, left, number, keeper):
                return (number, keeper)
    return None


def is_keeper(groups, left, number, keeper):
    """Whether one of the groups left keeps another one of them."""
    if keeper == number:
        return False
    others = [groups[other] for other in left if other != number]
    common = [mark for mark in groups[number] if together(others, [mark])]
    return has_all(groups[keeper], common)


def has_all(group, marks):
    """Whether all marks are in a group."""
    return all([mark in group for mark in marks])


def together(groups, marks):
    """Whether all marks are together in some group."""
    return any([has_all(group, marks) for group in groups])


def takes_off(groups, pairs):
    """Whether the pairs take off groups, one behind the other, till one is left."""
    left = list(range(len(groups)))
    for pair in pairs:
        if not is_pair_of(left, pair) or not is_keeper(groups, left, pair[0], pair[1]):
            return False
        left.remove(pair[0])
    return is_all_off(groups, pairs)


def is_pair_of(left, pair):
    """Whether a thing is a tuple of two numbers of groups that are left."""
    if not isinstance(pair, tuple) or len(pair) != 2:
        return False
    return all([is_whole(number) and number in left for number in pair])


def is_ring(groups, marks):
    """Whether unlike marks are a ring."""
    size = len(marks)
    if size < LEAST_RING:
        return False
    for second in range(size):
        for first in range(second):
            beside = second - first == 1 or second - first == size - 1
            if together(groups, [marks[first], marks[second]]) != beside:
                return False
    return True


def is_knot(groups, marks):
    """Whether unlike marks are a knot."""
    if len(marks) < LEAST_KNOT or together(groups, marks):
        return False
    return all([together(groups, without(marks, mark)) for mark in marks])


def without(marks, mark):
    """The marks but one."""
    return [other for other in marks if other != mark]


def marks_in(groups):
    """All marks of the groups, sorted."""
    marks = []
    for group in groups:
        marks.extend(group)
    return sorted(set(marks))


def is_tree_on(groups, marks):
    """Whether the groups are a tree when they keep no marks but these."""
    smaller = []
    for group in groups:
        smaller.append([mark for mark in group if mark in marks])
    return is_all_off(smaller, pairs_off(smaller))


def marks_of_no_tree(groups):
    """The marks of a ring or a knot, sorted, of groups that are no tree.

    A tree stays one when a mark is left out of all its groups. So what is left, once no more marks can be left out
    without getting a tree, has a ring or a knot, and no marks besides.
    """
    marks = marks_in(groups)
    for mark in marks_in(groups):
        fewer = without(marks, mark)
        if not is_tree_on(groups, fewer):
            marks = fewer
    return marks


def in_a_ring(groups, marks):
    """The marks of a ring, sorted, in the order in which they stand side by side."""
    ring = marks[:1]
    rest = marks[1:]
    while len(rest) > 0:
        beside = [mark for mark in rest if together(groups, [ring[-1], mark])]
        ring.append(beside[0])
        rest = without(rest, beside[0])
    return ring
