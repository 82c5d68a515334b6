"""Reading, showing and checking scripts."""
from crossheaps.errors import BadBlock, BadRow, NoProcedure, Twice, WrongCount
from crossheaps.forms import statement_of

MOST_BLOCKS = 8
# The statements that other rows may not fit.
BOUND = {
    "if": True, "else": True, "repeat": True, "proc": True, "end": True, "do": True, "close": True,
}


def read_script(text):
    """The rows of the text, each as the tuple of its words."""
    statements_of(text)
    if text == "":
        return ()
    return tuple([tuple(line.split(" ")) for line in text.split("\n")])


def statements_of(text):
    """The statements of the rows of any value."""
    if not isinstance(text, str):
        raise BadRow(0)
    found = []
    if text == "":
        return found
    for at, line in enumerate(text.split("\n")):
        statement = statement_of(line.split(" "))
        if statement is None:
            raise BadRow(at)
        found.append(statement)
    return found


def show_script(rows):
    """The text of such rows."""
    return "\n".join([" ".join(words) for words in rows])


def check(rows):
    """Raises the error of the least row that does not fit the others."""
    partners_in(rows)


def partners_in(rows):
    """The partners of the rows of blocks, if check accepts the rows."""
    return examine([statement_of(words) for words in rows], {})


def examine(statements, known):
    """Checks statements beside known procedures, a dict from names to numbers of parameters.

    Returns the partners of blocks: where an if, else, repeat or proc has its else or end; and
    for an end, what it ends: the else instead of an if that has one.
    """
    bound = [at for at, statement in enumerate(statements) if statement[0] in BOUND]
    if len(bound) == 0:
        return {}
    counts = counts_of([statements[at] for at in bound], known)
    earlier = dict(known)
    blocks = Blocks()
    for at in bound:
        statement = statements[at]
        if statement[0] == "do":
            examine_call(at, statement[1], len(statement[2]), counts)
        elif statement[0] == "close":
            examine_call(at, statement[5], 1, counts)
        else:
            blocks.turn(at, statement[0])
            if statement[0] == "proc":
                examine_name(at, statement[1], earlier)
    if len(blocks.words) > 0:
        raise BadBlock(len(statements))
    return blocks.partners


def counts_of(statements, known):
    """The numbers of parameters of all procedures; the earlier row of a name counts."""
    counts = dict(known)
    for statement in statements:
        if statement[0] == "proc":
            counts.setdefault(statement[1], len(statement[2]))
    return counts


def examine_name(at, name, earlier):
    """Adds the name of a procedure to the dict of earlier ones."""
    if name in earlier:
        raise Twice(at)
    earlier[name] = True


def examine_call(at, name, many, counts):
    """Checks the procedure that a row calls, or gives to a new record, with so many values."""
    if name not in counts:
        raise NoProcedure(at)
    if counts[name] != many:
        raise WrongCount(at)


class Blocks:
    """The blocks that are open at a row, by their first words and rows, and the partners so far.

    An if behind its else is an `else` there, with the row of this.
    """

    def __init__(self):
        self.words = []
        self.rows = []
        self.partners = {}

    def turn(self, at, word):
        """Opens, parts or ends a block."""
        if word == "end":
            self.shut(at)
        elif word == "else":
            if len(self.words) == 0 or self.words[-1] != "if":
                raise BadBlock(at)
            self.partners[self.rows[-1]] = at
            self.words[-1] = word
            self.rows[-1] = at
        elif len(self.words) == MOST_BLOCKS or (word == "proc" and len(self.words) > 0):
            raise BadBlock(at)
        else:
            self.words.append(word)
            self.rows.append(at)

    def shut(self, at):
        if len(self.words) == 0:
            raise BadBlock(at)
        self.words.pop()
        opener = self.rows.pop()
        self.partners[opener] = at
        self.partners[at] = opener
