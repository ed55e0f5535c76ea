"""What several modules share: looking at lists of whole numbers, and fractions brought to whole numbers."""

from gluedtables.frames import is_whole


def are_whole(thing):
    """Whether a thing is a list of whole numbers."""
    return isinstance(thing, list) and all([is_whole(number) for number in thing])


def are_counts(thing, length):
    """Whether a thing is a list of just so many whole numbers from 0 on."""
    return are_whole(thing) and len(thing) == length and all([number >= 0 for number in thing])


def common_divisor(one, other):
    """The greatest common divisor of two whole numbers from 0 on; of a number and 0 the number."""
    while other != 0:
        rest = one % other
        one = other
        other = rest
    return one


def made_whole(fractions):
    """A tuple (numbers, times): fractions (top, bottom) times the least times by which all are whole."""
    times = 1
    for top, bottom in fractions:
        needed = bottom // common_divisor(top, bottom)
        times = times // common_divisor(times, needed) * needed
    return ([top * times // bottom for top, bottom in fractions], times)
