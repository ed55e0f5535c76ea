"""What several tests share: samples of groups and families, and slow ways of reckoning by the document's words."""

import itertools
import math
import random

from gluedtables.tables import family_of


def groups_on(marks):
    """Each group of some of the marks."""
    return [group for size in range(1, len(marks) + 1) for group in itertools.combinations(marks, size)]


def keepers(groups, left, number):
    """The keepers of a group among those left, by the words of point 8."""
    others = [other for other in left if other != number]
    common = {mark for mark in groups[number] if any(mark in groups[other] for other in others)}
    return [other for other in others if common <= set(groups[other])]


def slow_pairs(groups):
    """The pairs by which the first groups are taken off with their first keepers, and how many groups are left."""
    left = list(range(len(groups)))
    pairs = []
    while True:
        able = [(number, keepers(groups, left, number)[0]) for number in left if keepers(groups, left, number)]
        if not able:
            return pairs, len(left)
        pairs.append(able[0])
        left.remove(able[0][0])


def some_lists(rounds, seed):
    """Lists of one to eight groups of up to six marks; each second is of small groups, for the sake of rings."""
    source = random.Random(seed)
    for round_number in range(rounds):
        marks = range(source.choice((1, 2, 3, 4, 4, 5, 5, 6, 6, 6)))
        sizes = (2, 2, 2, 2, 2, 2, 1) if round_number % 2 else (1, 2, 3, 3, 3, 4, 5)
        groups = []
        for k in range(source.choice((1, 2, 3, 4, 5, 5, 6, 6, 7, 8))):
            groups.append(tuple(sorted(source.sample(marks, min(source.choice(sizes), len(marks))))))
        yield groups


def some_trees(rounds, seed):
    """Trees: each group has some marks of one group before it, and new marks; in mixed order."""
    source = random.Random(seed)
    for round_number in range(rounds):
        unused = source.sample(range(6), 6)
        groups = [tuple(sorted(unused.pop() for k in range(source.randint(1, 3))))]
        for k in range(source.randint(0, 7)):
            old = source.choice(groups)
            kept = source.sample(old, source.randint(0, len(old)))
            new = [unused.pop() for j in range(min(len(unused), source.randint(0, 2)))]
            groups.append(tuple(sorted(kept + new)) or old)
        source.shuffle(groups)
        yield groups


def slow_sums(frame, table, part):
    """The sums, by looking at every pair of rows."""
    group, counts = table
    rows = list(itertools.product(*[range(frame[mark]) for mark in group]))
    told = []
    for small in itertools.product(*[range(frame[mark]) for mark in part]):
        asked = set(zip(part, small))
        told.append(sum(count for row, count in zip(rows, counts) if asked <= set(zip(group, row))))
    return told


def slow_agree(family):
    """The first two tables and the first row that are unlike, by the words of point 7."""
    frame, tables = family
    for i, j in itertools.combinations(range(len(tables)), 2):
        part = tuple(sorted(set(tables[i][0]) & set(tables[j][0])))
        rows = list(itertools.product(*[range(frame[mark]) for mark in part]))
        one, other = slow_sums(frame, tables[i], part), slow_sums(frame, tables[j], part)
        for row, left, right in zip(rows, one, other):
            if left != right:
                return (i, j, row)
    return None


def cut(frame, group, numbers):
    """The table that numbers on all rows give on a group."""
    return (group, tuple(slow_sums(frame, (tuple(range(len(frame))), numbers), group)))


def inside(groups, marks):
    """Whether the marks are together in some group."""
    return any(set(marks) <= set(group) for group in groups)


def slow_ring(groups, marks):
    """Whether marks are a ring, by the words of point 9."""
    if len(marks) < 4 or len(set(marks)) < len(marks):
        return False
    beside = {frozenset(two) for two in zip(marks, marks[1:] + marks[:1])}
    return all(inside(groups, two) == (frozenset(two) in beside) for two in itertools.combinations(marks, 2))


def slow_knot(groups, marks):
    """Whether marks are a knot, by the words of point 9."""
    if len(marks) < 3 or len(set(marks)) < len(marks):
        return False
    fewer = itertools.combinations(marks, len(marks) - 1)
    return not inside(groups, marks) and all(inside(groups, some) for some in fewer)


def rings_and_knots(groups):
    """Every ring (each once, begun at its least mark, one way round) and every knot of the groups."""
    marks = sorted({mark for group in groups for mark in group})
    found = []
    for size in range(3, len(marks) + 1):
        for some in itertools.combinations(marks, size):
            if slow_knot(groups, list(some)):
                found.append(("knot", list(some)))
            for rest in itertools.permutations(some[1:]):
                if rest[0] < rest[-1] and slow_ring(groups, [some[0], *rest]):
                    found.append(("ring", [some[0], *rest]))
    return found


def ring_of(marks):
    """The groups of two marks side by side."""
    return [tuple(sorted(two)) for two in zip(marks, marks[1:] + marks[:1])]


def knot_of(marks):
    """The groups of all marks but one."""
    return [tuple(some) for some in itertools.combinations(sorted(marks), len(marks) - 1)]


def product_rows(frame):
    """The rows of all marks."""
    return list(itertools.product(*[range(number) for number in frame]))


def slow_glued(family, numbers, times):
    """Whether numbers and times are a glued table, by the words of point 11."""
    frame, tables = family
    if times < 1 or len(numbers) != len(product_rows(frame)) or min(numbers) < 0:
        return False
    return all(
        cut(frame, group, numbers)[1] == tuple(count * times for count in counts) for group, counts in tables
    )


def renumbered(groups):
    """The groups with their marks numbered from 0 without gaps."""
    marks = sorted({mark for group in groups for mark in group})
    return [tuple(marks.index(mark) for mark in group) for group in groups]


def frame_for(groups, source):
    """A frame for the groups, with a mark of three kinds where there's room; None where no family has these groups."""
    frame = [2] * (max(max(group) for group in groups) + 1)
    for mark in source.sample(range(len(frame)), len(frame)):
        frame[mark] = source.choice((2, 3))
        rows = sum(math.prod(frame[other] for other in group) for group in groups)
        if math.prod(frame) > 64 or rows > 60:
            frame[mark] = 2
    rows = sum(math.prod(frame[mark] for mark in group) for group in groups)
    return tuple(frame) if rows <= 60 else None


def framed(lists, source):
    """Lists of groups, each with a frame, but for those that no family has."""
    for groups in lists:
        groups = renumbered(groups)
        frame = frame_for(groups, source)
        if frame is not None:
            yield frame, groups


def families_over(lists, seed):
    """Families that agree over lists of groups: cut out of tables of all marks, with more and fewer noughts."""
    source = random.Random(seed)
    for frame, groups in framed(lists, source):
        few = source.choice((1, 2, 5, 50))
        numbers = [max(0, source.randrange(-few, 6)) for row in product_rows(frame)]
        numbers[source.randrange(len(numbers))] += 1
        yield family_of(frame, [cut(frame, group, numbers) for group in groups])


def spoiled(family, source):
    """The family with things moved from one row of a table to another."""
    frame, tables = family
    at = source.randrange(len(tables))
    group, counts = tables[at]
    counts = list(counts)
    place = source.choice([k for k, count in enumerate(counts) if count])
    other = source.choice([k for k in range(len(counts)) if k != place])
    moved = source.randint(1, counts[place])
    counts[place] -= moved
    counts[other] += moved
    return family_of(frame, [*tables[:at], (group, tuple(counts)), *tables[at + 1:]])


def counts_of(total, length, source):
    """So many counts from 0 on that come to a total, any of them."""
    cuts = sorted(source.randint(0, total) for k in range(length - 1))
    return tuple(end - start for start, end in zip([0, *cuts], [*cuts, total]))


def any_family(frame, groups, total, source):
    """A family of any counts of one whole."""
    sizes = [math.prod(frame[mark] for mark in group) for group in groups]
    return family_of(frame, [(group, counts_of(total, size, source)) for group, size in zip(groups, sizes)])


def any_families(lists, seed):
    """Families of any counts of one whole over lists of groups, with small and great wholes."""
    source = random.Random(seed)
    for frame, groups in framed(lists, source):
        yield any_family(frame, groups, source.choice((1, 2, 6, 30, 1000, 10 ** 6, 10 ** 9)), source)


def mixed_families(rounds, seed):
    """Families over trees and other groups: cut out of tables of all marks, the same bent, and of any counts."""
    source = random.Random(seed)
    for lists in (some_trees(rounds, seed + 1), some_lists(rounds, seed + 2)):
        for family in families_over(lists, seed + 3):
            yield family
            yield spoiled(family, source)
            yield spoiled(spoiled(family, source), source)
    for lists in (some_trees(rounds, seed + 4), some_lists(rounds, seed + 5)):
        yield from any_families(lists, seed + 6)


def wide_groups():
    """Frames with groups whose rows are sixty together, of one to eight tables, with up to 64 rows of all marks."""
    return [
        ((2,) * 6, [(0, 1, 2, 3), (2, 3, 4, 5), (0, 2, 4), (1, 3, 5), (0, 5), (1, 4), (0,), (3,)]),
        ((2,) * 6, [(0, 1, 2, 3, 4), (1, 2, 3, 5), (0, 4, 5), (2, 5)]),
        ((2,) * 6, [(0, 1, 2), (3, 4, 5), (0, 2, 4), (1, 3, 5), (0, 1, 5), (0, 3, 4), (1, 2, 4), (2, 5)]),
        ((3, 3, 3, 2), [(0, 1, 2), (1, 2, 3), (0, 2), (2, 3)]),
        ((3, 3, 3, 2), [(0, 1, 2, 3), (1, 3)]),
        ((3, 3, 3, 2), [(0, 1), (1, 2), (0, 2), (1, 3), (0, 3), (0, 1), (0, 2), (1,)]),
        ((2, 2, 2, 2, 3), [(0, 1, 4), (1, 2, 4), (2, 3, 4), (0, 3, 4), (0, 2), (1, 3), (2, 3)]),
        ((2, 2, 2, 2, 2), [(0, 1, 2, 3, 4), (0, 1, 2, 3), (2, 3, 4), (0, 4)]),
    ]


def wide_families(seed):
    """Families at the greatest sizes: of any counts, and cut out of tables of all marks, as they are and bent."""
    source = random.Random(seed)
    for frame, groups in wide_groups():
        for total in (7, 10 ** 6, 10 ** 9):
            yield any_family(frame, groups, total, source)
            numbers = counts_of(total, math.prod(frame), source)
            family = family_of(frame, [cut(frame, group, numbers) for group in groups])
            yield family
            yield spoiled(family, source)


def slow_rows(family, lists):
    """For each row of all marks what the numbers on the rows of all tables, a list for each, come to there."""
    frame, tables = family
    totals = [0] * math.prod(frame)
    for (group, counts), numbers in zip(tables, lists):
        there = dict(zip(itertools.product(*[range(frame[mark]) for mark in group]), numbers))
        for place, row in enumerate(product_rows(frame)):
            totals[place] += there[tuple(row[mark] for mark in group)]
    return totals


def slow_worth(family, lists):
    """The sum of all numbers on the rows of the tables, each with the count of its row."""
    return sum(
        number * count for (group, counts), numbers in zip(family[1], lists) for number, count in zip(numbers, counts)
    )


def is_form(family, lists):
    """Whether there is a list for each table with a whole number for each of its rows."""
    if [len(numbers) for numbers in lists] != [len(counts) for group, counts in family[1]]:
        return False
    return all(type(number) is int for numbers in lists for number in numbers)


def slow_bet(family, bet):
    """Whether lists of numbers are a bet, by the words of point 15."""
    return is_form(family, bet) and min(slow_rows(family, bet)) >= 0 and slow_worth(family, bet) < 0


def some_names(many, source):
    """So many unlike names of one to eight small letters."""
    names = []
    while len(names) < many:
        name = "".join(source.choice("abcdefghijklmnopqrstuvwxyz") for k in range(source.randint(1, 8)))
        if name not in names:
            names.append(name)
    return names


def slow_text(names, family):
    """The text of a family, by the words of point 22."""
    frame, tables = family
    text = "marks"
    for name, kinds in zip(names, frame):
        text += " " + name + str(kinds)
    for group, counts in tables:
        text += "\ntable"
        for mark in group:
            text += " " + names[mark]
        text += " :"
        for count in counts:
            text += " " + str(count)
    return text
