"""What several tests share: samples of groups, and slow ways of reckoning by the words of the document."""

import itertools
import random


def groups_on(marks):
    """Each group of some of the marks."""
    return [group for size in range(1, len(marks) + 1) for group in itertools.combinations(marks, size)]


def keepers(groups, left, number):
    """The keepers of a group among those left, by the words of point 8."""
    others = [other for other in left if other != number]
    common = {mark for mark in groups[number] if any(mark in groups[other] for other in others)}
    return [other for other in others if common <= set(groups[other])]


def slow_pairs(groups):
    """The pairs by which the first groups are taken off with their first keepers, and how many groups are left."""
    left = list(range(len(groups)))
    pairs = []
    while True:
        able = [(number, keepers(groups, left, number)[0]) for number in left if keepers(groups, left, number)]
        if not able:
            return pairs, len(left)
        pairs.append(able[0])
        left.remove(able[0][0])


def some_lists(rounds, seed):
    """Lists of one to eight groups of up to six marks; each second is of small groups, for the sake of rings."""
    source = random.Random(seed)
    for round_number in range(rounds):
        marks = range(source.choice((1, 2, 3, 4, 4, 5, 5, 6, 6, 6)))
        sizes = (2, 2, 2, 2, 2, 2, 1) if round_number % 2 else (1, 2, 3, 3, 3, 4, 5)
        groups = []
        for k in range(source.choice((1, 2, 3, 4, 5, 5, 6, 6, 7, 8))):
            groups.append(tuple(sorted(source.sample(marks, min(source.choice(sizes), len(marks))))))
        yield groups


def some_trees(rounds, seed):
    """Trees: each group has some marks of one group before it, and new marks; in mixed order."""
    source = random.Random(seed)
    for round_number in range(rounds):
        unused = source.sample(range(6), 6)
        groups = [tuple(sorted(unused.pop() for k in range(source.randint(1, 3))))]
        for k in range(source.randint(0, 7)):
            old = source.choice(groups)
            kept = source.sample(old, source.randint(0, len(old)))
            new = [unused.pop() for j in range(min(len(unused), source.randint(0, 2)))]
            groups.append(tuple(sorted(kept + new)) or old)
        source.shuffle(groups)
        yield groups


def slow_sums(frame, table, part):
    """The sums, by looking at every pair of rows."""
    group, counts = table
    rows = list(itertools.product(*[range(frame[mark]) for mark in group]))
    told = []
    for small in itertools.product(*[range(frame[mark]) for mark in part]):
        asked = set(zip(part, small))
        told.append(sum(count for row, count in zip(rows, counts) if asked <= set(zip(group, row))))
    return told


def slow_agree(family):
    """The first two tables and the first row that are unlike, by the words of point 7."""
    frame, tables = family
    for i, j in itertools.combinations(range(len(tables)), 2):
        part = tuple(sorted(set(tables[i][0]) & set(tables[j][0])))
        rows = list(itertools.product(*[range(frame[mark]) for mark in part]))
        one, other = slow_sums(frame, tables[i], part), slow_sums(frame, tables[j], part)
        for row, left, right in zip(rows, one, other):
            if left != right:
                return (i, j, row)
    return None


def cut(frame, group, numbers):
    """The table that numbers on all rows give on a group."""
    return (group, tuple(slow_sums(frame, (tuple(range(len(frame))), numbers), group)))
