"""A desk: a family that is asked and changed by rows of words."""

from gluedtables.changes import forgotten, joined
from gluedtables.errors import NoBack, NoName, NoRow
from gluedtables.frames import all_rows
from gluedtables.glue import glued
from gluedtables.happenings import least, most
from gluedtables.parts import share
from gluedtables.shapes import shape
from gluedtables.tables import agree, family_of, groups_of, whole
from gluedtables.texts import is_number, read_family, show_family

KINDS = ("0", "1", "2")


class Desk:
    """Keeps the state, a tuple (names, family), and the states before it, one for each change."""

    def __init__(self, text):
        self.state = read_family(text)
        self.past = []

    def say(self, row):
        """The answer to a row; what is refused changes nothing."""
        if not isinstance(row, str):
            raise NoRow("a row is a text")
        words = row.split(" ")
        if words == ["back"]:
            return self.go_back()
        if words[0] in ("count", "forget", "join"):
            return self.go_on(changed(self.state, words))
        return answer(self.state, words)

    def go_on(self, state):
        """Take a change, that led to this state."""
        self.past.append(self.state)
        self.state = state
        return "ok"

    def go_back(self):
        """Take back the last change."""
        if len(self.past) == 0:
            raise NoBack("no change is left to be taken back")
        self.state = self.past.pop()
        return "ok"


def answer(state, words):
    """The answer to a row that changes nothing."""
    family = state[1]
    if words[0] == "least":
        return fraction(least(family, rows_told(family[0], words[1:]))[0])
    if words[0] == "most":
        return fraction(most(family, rows_told(family[0], words[1:]))[0])
    if words == ["show"]:
        return show_family(state[0], family)
    if words == ["whole"]:
        return str(whole(family))
    if words == ["agree"]:
        return agreement(family)
    if words == ["shape"]:
        return shape(groups_of(family))[0]
    if words == ["glued"]:
        return "yes" if glued(family)[0] == "glued" else "no"
    if words == ["share"]:
        return fraction(share(family))
    raise NoRow("no such row is known")


def fraction(pair):
    """A fraction (top, bottom) as it is written."""
    top = pair[0]
    bottom = pair[1]
    return f"{top}/{bottom}"


def figures(row):
    """A row as it is written, by the figures of its kinds."""
    return "".join([str(kind) for kind in row])


def rows_told(frame, words):
    """The rows of all marks that words tell, one or more, each once."""
    rows = {}
    for row in all_rows(frame):
        rows[figures(row)] = row
    if len(words) == 0 or len(set(words)) != len(words) or not all([word in rows for word in words]):
        raise NoRow("one or more rows of all marks are told, each once")
    return [rows[word] for word in words]


def agreement(family):
    """Whether each two tables agree, as it is written."""
    found = agree(family)
    if found is None:
        return "yes"
    return " ".join(["no", str(found[0]), str(found[1]), figures(found[2])])


def changed(state, words):
    """The state to which a change leads."""
    if words[0] == "count":
        return (state[0], counted(state[1], words[1:]))
    if words[0] == "forget":
        return without_mark(state, words[1:])
    return (state[0], with_joined_kinds(state, words[1:]))


def counted(family, words):
    """The family in which a table has other counts, as words tell its number and them."""
    if len(words) < 2 or not all([is_number(word) for word in words]):
        raise NoRow("a table's number and one count at least are told")
    at = int(words[0])
    tables = list(family[1])
    if at >= len(tables):
        raise NoRow("no table has this number")
    tables[at] = (tables[at][0], [int(word) for word in words[1:]])
    return family_of(family[0], tables)


def without_mark(state, words):
    """The state in which the mark that words tell is forgotten."""
    if len(words) != 1:
        raise NoRow("one mark is told")
    mark = mark_named(state[0], words[0])
    return ([name for name in state[0] if name != words[0]], forgotten(state[1], mark))


def with_joined_kinds(state, words):
    """The family in which two kinds of a mark are joined, as words tell them."""
    if len(words) != 3 or words[1] not in KINDS or words[2] not in KINDS:
        raise NoRow("a mark and two kinds are told")
    return joined(state[1], mark_named(state[0], words[0]), int(words[1]), int(words[2]))


def mark_named(names, name):
    """The number of the mark with a name."""
    if name not in names:
        raise NoName("no mark has this name")
    return names.index(name)
