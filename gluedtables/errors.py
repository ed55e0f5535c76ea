"""The refusals. An error keeps what it is made of as its words, so no class here sets words of its own."""


class GlueError(ValueError):
    """Any refusal."""


class NoFrame(GlueError):
    """A thing that tells no frame."""


class NoTable(GlueError):
    """A table that is none; at is its number, or how many tables there are where something is missing."""

    def __init__(self, at):
        self.at = at


class TooMany(GlueError):
    """More tables, or more rows of their groups, than a family may have."""


class NoTree(GlueError):
    """Groups that are no tree where one is needed, or a tree where none may be."""


class Unlike(GlueError):
    """Two tables, first and second, whose sums differ on a row of their overlap."""

    def __init__(self, first, second, row):
        self.first = first
        self.second = second
        self.row = row


class NoGlue(GlueError):
    """A family that is never glued, as the bet shows."""

    def __init__(self, bet):
        self.bet = bet


class NoText(GlueError):
    """A text that is no family's; line is the number of the first line that doesn't fit."""

    def __init__(self, line):
        self.line = line


class NoRow(GlueError):
    """A row that a desk doesn't know."""


class NoName(GlueError):
    """A word that is no mark's name."""


class NoBack(GlueError):
    """No change is left to be taken back."""
