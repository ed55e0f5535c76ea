"""What several modules share: lists of whole numbers looked at, fractions made whole, and rows filled at best."""

from gluedtables.frames import is_whole


class Grid:
    """Rows of numbers with limits, solved for some of the unknowns.

    The unknowns are the fillings of the columns, numbered from 0, and behind them what is left of each row's limit.
    Each number of a row and of costs stands for itself divided by divisor; the last of a row is its limit, the last
    of costs the sum that is reached. inside has the unknown that each row is solved for, outside the one that each
    column is of; those outside are 0.
    """

    def __init__(self, rows, limits, weights):
        self.rows = [row + [limit] for row, limit in zip(rows, limits)]
        self.costs = [-weight for weight in weights] + [0]
        self.outside = list(range(len(weights)))
        self.inside = list(range(len(weights), len(weights) + len(rows)))
        self.divisor = 1


def are_whole(thing):
    """Whether a thing is a list of whole numbers."""
    return isinstance(thing, list) and all([is_whole(number) for number in thing])


def are_counts(thing, length):
    """Whether a thing is a list of just so many whole numbers from 0 on."""
    return are_whole(thing) and len(thing) == length and all([number >= 0 for number in thing])


def common_divisor(one, other):
    """The greatest common divisor of two whole numbers from 0 on; of a number and 0 the number."""
    while other != 0:
        rest = one % other
        one = other
        other = rest
    return one


def lowest_terms(top, bottom):
    """A fraction as a tuple (top, bottom) in lowest terms; top from 0 on, bottom from 1 on."""
    divisor = common_divisor(top, bottom)
    return (top // divisor, bottom // divisor)


def made_whole(fractions):
    """A tuple (numbers, times): fractions (top, bottom) times the least times by which all are whole."""
    times = 1
    for top, bottom in fractions:
        needed = lowest_terms(top, bottom)[1]
        times = times // common_divisor(times, needed) * needed
    return ([top * times // bottom for top, bottom in fractions], times)


def filled(rows, limits, weights):
    """The fillings of the columns, from 0 on, that keep each row within its limit and have the greatest sum.

    rows are lists with a number for each column, limits have a number from 0 on for each row, weights one for each
    column, by which its filling counts in the sum; some limit must hold each column. Told is (numbers, times, prices,
    scale): the fillings are numbers divided by times; prices, one for each row and from 0 on, divided by scale, come
    to the weight at least in each column, and with the limits to that greatest sum.
    """
    grid = Grid(rows, limits, weights)
    column = first_to_fill(grid)
    while column is not None:
        exchange(grid, first_to_hold(grid, column), column)
        column = first_to_fill(grid)
    numbers = made_whole(over_divisor(grid, fillings(grid)))
    prices = made_whole(over_divisor(grid, row_prices(grid)))
    return (numbers[0], numbers[1], prices[0], prices[1])


def first_to_fill(grid):
    """The column of the first unknown outside by which the sum grows, or None.

    That it is the first, here and in first_to_hold, keeps the exchanges from going round for ever (Bland's rule).
    """
    growing = [(unknown, column) for column, unknown in enumerate(grid.outside) if grid.costs[column] < 0]
    return min(growing)[1] if len(growing) > 0 else None


def first_to_hold(grid, column):
    """The place of the row that holds a column's unknown the most; of several the one of the first unknown."""
    best = None
    for place, row in enumerate(grid.rows):
        if row[column] > 0 and (best is None or holds_more(grid, column, place, best)):
            best = place
    return best


def holds_more(grid, column, place, best):
    """Whether the row at place is to be taken before the best one so far."""
    one = grid.rows[place][-1] * grid.rows[best][column]
    other = grid.rows[best][-1] * grid.rows[place][column]
    return one < other or (one == other and grid.inside[place] < grid.inside[best])


def exchange(grid, place, column):
    """Solve the row at place for the unknown of the column, and put it into all other rows."""
    solved = list(grid.rows[place])
    solved[column] = grid.divisor
    rows = [with_solved(grid, row, place, column) for row in grid.rows]
    rows[place] = solved
    grid.costs = with_solved(grid, grid.costs, place, column)
    grid.divisor = grid.rows[place][column]
    grid.rows = rows
    unknown = grid.inside[place]
    grid.inside[place] = grid.outside[column]
    grid.outside[column] = unknown


def with_solved(grid, row, place, column):
    """A row with the unknown of the column put in, as the row at place tells it."""
    solved = grid.rows[place]
    pivot = solved[column]
    factor = row[column]
    if factor == 0 and pivot == grid.divisor:
        return row
    # All numbers are minors of the first rows, so this division leaves no rest.
    changed = [(number * pivot - factor * other) // grid.divisor for number, other in zip(row, solved)]
    changed[column] = -factor
    return changed


def over_divisor(grid, numbers):
    """The fractions (top, bottom) that numbers of a grid stand for."""
    return [(number, grid.divisor) for number in numbers]


def fillings(grid):
    """What the columns' unknowns are, times the divisor."""
    numbers = [0] * len(grid.outside)
    for place, unknown in enumerate(grid.inside):
        if unknown < len(numbers):
            numbers[unknown] = grid.rows[place][-1]
    return numbers


def row_prices(grid):
    """What the sum grows by one more of each row's limit, times the divisor."""
    columns = len(grid.outside)
    prices = [0] * len(grid.inside)
    for column, unknown in enumerate(grid.outside):
        if unknown >= columns:
            prices[unknown - columns] = grid.costs[column]
    return prices
