"""A running call, and how it goes through its blocks."""
from crossheaps.actions import ACTIONS
from crossheaps.checks import values_of

UNCOUNTED = ("drop", "else", "end", "proc")


class Call:
    """A call that is running, or the script itself.

    `at` is the statement that it does, `ahead` the one that comes then; `turns` has, for each
    repeat around it, how often its body is still to be done, this time too.
    """

    def __init__(self, code):
        self.code = code
        self.at = 0
        self.ahead = 0
        self.turns = []

    def row_now(self):
        """The number of the current row in its own script."""
        return self.code.base + self.at

    def advance(self, work):
        """Does the next statement, or ends the call."""
        if self.ahead == len(self.code.statements):
            work.end_call()
            return
        self.at = self.ahead
        self.ahead += 1
        statement = self.code.statements[self.at]
        if statement[0] not in UNCOUNTED:
            work.count_row()
        if statement[0] in STEERED:
            steer = STEERED[statement[0]]
            steer(self, work, statement)
        else:
            action = ACTIONS[statement[0]]
            action(work, statement)

    def go_behind(self, at):
        self.ahead = at + 1

    def partner(self):
        return self.code.partners[self.at]


def steer_if(call, work, statement):
    left, right = values_of(work, statement[1:])
    if left != right:
        call.go_behind(call.partner())


def steer_behind(call, work, _):
    """An else behind its first arm, and a procedure, go on behind their end."""
    call.go_behind(call.partner())


def steer_repeat(call, work, statement):
    # An empty body is left out: it counts no rows, so that it could go on for long.
    if statement[1] == 0 or call.partner() == call.at + 1:
        call.go_behind(call.partner())
    else:
        call.turns.append(statement[1])


def steer_end(call, work, _):
    opener = call.partner()
    if call.code.statements[opener][0] != "repeat" or len(call.turns) == 0:
        return
    call.turns[-1] -= 1
    if call.turns[-1] > 0:
        call.go_behind(opener)
    else:
        call.turns.pop()


STEERED = {
    "if": steer_if,
    "else": steer_behind,
    "end": steer_end,
    "repeat": steer_repeat,
    "proc": steer_behind,
}
