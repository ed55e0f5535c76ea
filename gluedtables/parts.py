"""The greatest part of a family that can be glued, with prices that show that no greater one can."""

from gluedtables.filling import are_counts, are_whole, filled, lowest_terms
from gluedtables.frames import all_marks, all_rows, is_whole, rows_of, seen
from gluedtables.products import is_numbered, sums_on_groups, times_over
from gluedtables.tables import groups_of, whole


def part(family):
    """The part of a family with its prices, a tuple (numbers, times, prices, scale)."""
    return weighed_part(family, [1 for row in all_rows(family[0])])


def weighed_part(family, weights):
    """The part of a family that is worth the most where each row of all marks has a weight, with its prices.

    The prices come to scale times the weight at least on each row, and with the counts to what the part is worth.
    """
    told = filled(rows_by_all(family), limits_of(family), weights)
    return (told[0], told[1], by_tables(family, told[2]), told[3])


def share(family):
    """The share of a family, a fraction (top, bottom) in lowest terms."""
    told = part(family)
    return lowest_terms(sum(told[0]), told[1] * whole(family))


def is_part(family, told):
    """Whether a tuple (numbers, times, prices, scale), whoever wrote it, is a part with prices of the family."""
    if not isinstance(told, tuple) or len(told) != 4:
        return False
    if not is_within(family, told[0], told[1]) or not is_priced(family, told[2], told[3]):
        return False
    return with_counts(family, told[2]) * told[1] == told[3] * sum(told[0])


def rows_by_all(family):
    """For each row of each table a list with 1 for each row of all marks that is this row there, 0 for others."""
    frame = family[0]
    rows = []
    for group in groups_of(family):
        places = places_of(frame, group)
        for number in range(len(rows_of(frame, group))):
            rows.append([1 if place == number else 0 for place in places])
    return rows


def limits_of(family):
    """The counts of all tables, one behind the other."""
    limits = []
    for table in family[1]:
        limits.extend(table[1])
    return limits


def by_tables(family, numbers):
    """Numbers for the rows of all tables, one behind the other, as a list for each table."""
    lists = []
    start = 0
    for table in family[1]:
        end = start + len(table[1])
        lists.append(numbers[start:end])
        start = end
    return lists


def places_of(frame, group):
    """For each row of all marks the number of the row that it is, seen on the group."""
    rows = rows_of(frame, group)
    return [rows.index(seen(all_marks(frame), row, group)) for row in all_rows(frame)]


def is_within(family, numbers, times):
    """Whether numbers and times are a part of the family."""
    if not is_numbered(family, numbers, times):
        return False
    for totals, most in zip(sums_on_groups(family, numbers), times_over(family, times)):
        if any([total > count for total, count in zip(totals, most)]):
            return False
    return True


def is_priced(family, prices, scale):
    """Whether prices, from 0 on, come to scale, from 1 on, at least on each row of all marks."""
    if not is_whole(scale) or scale < 1 or not are_lists(family, prices):
        return False
    for numbers in prices:
        if not are_counts(numbers, len(numbers)):
            return False
    return min(on_all_rows(family, prices)) >= scale


def are_lists(family, thing):
    """Whether a thing is a list with, for each table, a list with a whole number for each of its rows."""
    if not isinstance(thing, list) or len(thing) != len(family[1]):
        return False
    for numbers, table in zip(thing, family[1]):
        if not are_whole(numbers) or len(numbers) != len(table[1]):
            return False
    return True


def on_all_rows(family, lists):
    """For each row of all marks what the numbers of all tables there come to."""
    frame = family[0]
    totals = [0 for row in all_rows(frame)]
    for group, numbers in zip(groups_of(family), lists):
        totals = [total + numbers[place] for total, place in zip(totals, places_of(frame, group))]
    return totals


def with_counts(family, lists):
    """The sum of all numbers, each with the count of its row."""
    total = 0
    for numbers, table in zip(lists, family[1]):
        total = total + sum([number * count for number, count in zip(numbers, table[1])])
    return total
