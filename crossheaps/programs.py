"""Rows made ready to run."""
from crossheaps.forms import statement_of

OPENERS = ("if", "repeat", "proc")


class Code:
    """The statements of a script or of a procedure.

    The first one is row `base` of its script. `partners` tells where a block goes on: an if
    at its else or end, an else, repeat and proc at its end, an end at what it closes.
    """

    def __init__(self, rows, base):
        self.base = base
        self.statements = [statement_of(list(words)) for words in rows]
        self.partners = partners_of(rows)


class Procedure:
    """A procedure: its name, its parameters and its code."""

    def __init__(self, name, parameters, code):
        self.name = name
        self.parameters = parameters
        self.code = code


def partners_of(rows):
    partners = {}
    blocks = []
    for at, words in enumerate(rows):
        if words[0] in OPENERS:
            blocks.append(at)
        elif words[0] == "else":
            partners[blocks.pop()] = at
            blocks.append(at)
        elif words[0] == "end":
            opener = blocks.pop()
            partners[opener] = at
            partners[at] = opener
    return partners


def procedures_of(rows):
    """The procedures of rows that check accepts, in their order."""
    found = []
    partners = partners_of(rows)
    for at, words in enumerate(rows):
        if words[0] == "proc":
            code = Code(rows[at + 1:partners[at]], at + 1)
            found.append(Procedure(words[1], words[2:], code))
    return found
