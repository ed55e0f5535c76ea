"""The least and the most that something can count in a glued family, told with a bet that nothing is beyond.

The least of some rows is the most of the same rows, counted below 0, with the sign changed: so what is written here
for both is told the sign by which the rows count, -1 for the least and 1 for the most.
"""

from gluedtables.errors import NoGlue
from gluedtables.filling import lowest_terms
from gluedtables.frames import all_rows, is_whole
from gluedtables.glue import bet_of, glued
from gluedtables.parts import are_lists, on_all_rows, weighed_part, with_counts
from gluedtables.products import is_glued
from gluedtables.tables import whole


def least(family, some):
    """The least of a happening, a tuple (share, table, bet, scale); NoGlue where the family is never glued."""
    return bound(family, some, -1)


def most(family, some):
    """The most of a happening, a tuple (share, table, bet, scale); NoGlue where the family is never glued."""
    return bound(family, some, 1)


def is_bound(family, some, word, told):
    """Whether a tuple, whoever wrote it, is the least or the most, as the word says, of a happening in the family."""
    if word == "least":
        return is_bound_by(family, some, -1, told)
    return word == "most" and is_bound_by(family, some, 1, told)


def bound(family, some, sign):
    """The least or the most of a happening."""
    found = glued(family)
    if found[0] == "never":
        raise NoGlue(found[1])
    told = best_glued(family, [sign * number for number in marked(family, some)])
    bet = []
    for numbers in told[2]:
        bet.append([sign * number for number in numbers])
    share_there = lowest_terms(sum_there(family, some, told[0]), told[1] * whole(family))
    return (share_there, (told[0], told[1]), bet, told[3])


def marked(family, some):
    """For each row of all marks 1 where it is of the happening, else 0."""
    return [1 if row in some else 0 for row in all_rows(family[0])]


def sum_there(family, some, numbers):
    """What numbers on all rows come to on the rows of the happening."""
    return sum([number for row, number in zip(all_rows(family[0]), numbers) if row in some])


def best_glued(family, weights):
    """Of a glued family the glued table that is worth the most, with a bet that comes to the weights at least.

    Told is (numbers, times, bet, scale), as of a part with prices. The greatest part by weights alone may leave things
    out. So each thing counts for something by itself, for more and more till none is left out (dear enough it always
    comes to that); what it counted for by itself is taken off the prices again.
    """
    alone = 1
    told = part_with(family, weights, alone)
    while sum(told[0]) < told[1] * whole(family):
        alone = 2 * alone
        told = part_with(family, weights, alone)
    return (told[0], told[1], bet_of(told[2], alone * told[3]), told[3])


def part_with(family, weights, alone):
    """The part that is worth the most where each thing counts its row's weight and so much more by itself."""
    return weighed_part(family, [weight + alone for weight in weights])


def is_bound_by(family, some, sign, told):
    """Whether a tuple is the least or the most of a happening."""
    if not isinstance(told, tuple) or len(told) != 4:
        return False
    if not is_share(told[0]) or not is_glued(family, told[1]):
        return False
    top = told[0][0] * whole(family)
    bottom = told[0][1]
    if sum_there(family, some, told[1][0]) * bottom != top * told[1][1]:
        return False
    if not is_bounding(family, some, sign, told[2], told[3]):
        return False
    return with_counts(family, told[2]) * bottom == told[3] * top


def is_share(thing):
    """Whether a thing is a fraction (top, bottom) in lowest terms, top from 0 on, bottom from 1 on."""
    if not isinstance(thing, tuple) or len(thing) != 2 or not all([is_whole(number) for number in thing]):
        return False
    return thing[0] >= 0 and thing[1] >= 1 and lowest_terms(thing[0], thing[1]) == thing


def is_bounding(family, some, sign, bet, scale):
    """Whether a bet comes to scale on the rows of the happening, to 0 elsewhere: at most, or at least."""
    if not is_whole(scale) or scale < 1 or not are_lists(family, bet):
        return False
    for total, number in zip(on_all_rows(family, bet), marked(family, some)):
        if sign * total < sign * scale * number:
            return False
    return True
