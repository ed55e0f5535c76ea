"""Whether a family is glued, told with a glued table, or never is, told with a bet."""

from gluedtables.parts import are_lists, on_all_rows, part, with_counts
from gluedtables.products import is_glued
from gluedtables.tables import whole


def glued(family):
    """A tuple ("glued", table) or ("never", bet)."""
    told = part(family)
    if sum(told[0]) == told[1] * whole(family):
        # Each table's sums are at most its counts and come to the same whole: so they are its counts.
        return ("glued", (told[0], told[1]))
    return ("never", bet_of(told[2], told[3]))


def bet_of(prices, scale):
    """The bet by prices that come to less than scale times the whole.

    One table counts each thing once: less by scale on all its rows, the prices come to 0 at least on each row of all
    marks, and with the counts to less than 0.
    """
    return [[price - scale for price in prices[0]]] + prices[1:]


def is_bet(family, bet):
    """Whether a bet, whoever wrote it, is one against the family."""
    if not are_lists(family, bet):
        return False
    return min(on_all_rows(family, bet)) >= 0 and with_counts(family, bet) < 0


def is_told(family, told):
    """Whether a tuple of a word and a thing, whoever wrote it, is so of the family."""
    if not isinstance(told, tuple) or len(told) != 2:
        return False
    if told[0] == "glued":
        return is_glued(family, told[1])
    return told[0] == "never" and is_bet(family, told[1])
