"""Reading, showing and checking scripts."""
from crossheaps.errors import BadBlock, BadRow, NoProcedure, Twice, WrongCount
from crossheaps.forms import statement_of

MOST_BLOCKS = 8
OPENERS = ("if", "repeat", "proc")


def read_script(text):
    """The rows of the text, each as the tuple of its words."""
    if not isinstance(text, str):
        raise BadRow(0)
    if text == "":
        return ()
    rows = []
    for at, line in enumerate(text.split("\n")):
        words = line.split(" ")
        if statement_of(words) is None:
            raise BadRow(at)
        rows.append(tuple(words))
    return tuple(rows)


def show_script(rows):
    """The text of such rows."""
    return "\n".join([" ".join(words) for words in rows])


def check(rows):
    """Raises the error of the least row that does not fit the others."""
    examine(rows, {})


def examine(rows, known):
    """Checks rows beside known procedures: a dict from names to numbers of parameters."""
    counts = counts_of(rows, known)
    earlier = dict(known)
    blocks = []
    for at, words in enumerate(rows):
        if not fits(words[0], blocks):
            raise BadBlock(at)
        if words[0] == "proc":
            if words[1] in earlier:
                raise Twice(at)
            earlier[words[1]] = True
        examine_call(at, words, counts)
        turn_blocks(words[0], blocks)
    if len(blocks) > 0:
        raise BadBlock(len(rows))


def counts_of(rows, known):
    """The numbers of parameters of all procedures; the earlier row of a name counts."""
    counts = dict(known)
    for words in rows:
        if words[0] == "proc":
            counts.setdefault(words[1], len(words) - 2)
    return counts


def fits(word, blocks):
    """Whether a row with this first word may stand within these open blocks."""
    if word == "end":
        return len(blocks) > 0
    if word == "else":
        return len(blocks) > 0 and blocks[-1] == "if"
    if word == "proc":
        return len(blocks) == 0
    if word in OPENERS:
        return len(blocks) < MOST_BLOCKS
    return True


def turn_blocks(word, blocks):
    """Opens or closes a block of the list; an if behind its else is an `else` there."""
    if word in OPENERS:
        blocks.append(word)
    elif word == "else":
        blocks[-1] = word
    elif word == "end":
        blocks.pop()


def examine_call(at, words, counts):
    """Checks the procedure that a row calls, or gives to a new record."""
    if words[0] == "do":
        name = words[1]
        many = len(words) - 2
    elif words[0] == "let" and words[-2] == "then":
        name = words[-1]
        many = 1
    else:
        return
    if name not in counts:
        raise NoProcedure(at)
    if counts[name] != many:
        raise WrongCount(at)
