"""Scripts made ready to run."""
from crossheaps.actions import ACTIONS
from crossheaps.calls import do_again, do_if, do_jump, do_nothing, do_repeat, do_return


class Procedure:
    """A procedure: its parameters, the steps of its script, and the first one of its own.

    `lines` are its rows as they are written. Its script has `shift` more rows ahead of them
    than the steps: none, but for the procedures of resumed machines.
    """

    def __init__(self, parameters, steps, start, lines):
        self.parameters = parameters
        self.steps = steps
        self.start = start
        self.lines = lines
        self.shift = 0


def procedures_in(text, statements, partners, steps):
    """The procedures of a script by their names."""
    found = {}
    lines = text.split("\n")
    for at in partners:
        statement = statements[at]
        if statement[0] == "proc":
            own = tuple(lines[at:partners[at] + 1])
            found[statement[1]] = Procedure(statement[2], steps, at + 1, own)
    return found


def steps_of(statements, partners):
    """The steps of a script, one for each row and one that ends it.

    A step is (whether it counts as a row that is done, an action, what the action is told).
    """
    steps = [(statement[0] != "drop", ACTIONS[statement[0]], statement)
             for statement in statements]
    for at in partners:
        steps[at] = block_step(statements, partners, at)
    steps.append((False, do_return, None))
    return steps


def block_step(statements, partners, at):
    """The step of a row that begins, parts or ends a block."""
    statement = statements[at]
    partner = partners[at]
    if statement[0] == "if":
        return (True, do_if, (statement[1], statement[2], partner + 1))
    if statement[0] == "repeat":
        # An empty body is left out: it counts no rows, so that it could go on for long.
        if statement[1] == 0 or partner == at + 1:
            return (True, do_jump, partner + 1)
        return (True, do_repeat, statement[1])
    if statement[0] != "end":
        return (False, do_jump, partner + 1)
    if statements[partner][0] == "repeat":
        return (False, do_again, partner + 1)
    if statements[partner][0] == "proc":
        return (False, do_return, None)
    return (False, do_nothing, None)
