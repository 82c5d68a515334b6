"""A running call, and how it goes through its blocks."""
from crossheaps.checks import value_at
from crossheaps.errors import Fault

MOST_ROWS = 10000


class Call:
    """A call that is running, or the script itself.

    `ahead` is the step that comes next; `shift` is how many more rows the script has ahead of
    its steps; `turns` has, for each repeat around it, how often its body is still to be done,
    this time too.
    """

    def __init__(self, steps, ahead, shift):
        self.steps = steps
        self.ahead = ahead
        self.shift = shift
        self.turns = []

    def row_now(self):
        """The number of the current row in its own script."""
        # Only a step that can no longer fail goes elsewhere.
        return self.ahead - 1 + self.shift

    def advance(self, work):
        """Does steps until enough is told, or until something else is to go on.

        This is done for each row of a script, so that it is one loop, without further calls.
        """
        steps = self.steps
        events = work.heap.events
        most = work.most
        while len(events) < most:
            counts, action, told = steps[self.ahead]
            self.ahead += 1
            if counts:
                if work.rows == MOST_ROWS:
                    raise Fault("long", self.row_now())
                work.rows += 1
            if action(work, told):
                return


def do_if(work, told):
    left, right, other = told
    if value_at(work, left) != value_at(work, right):
        work.calls[-1].ahead = other


def do_jump(work, ahead):
    work.calls[-1].ahead = ahead


def do_nothing(work, _):
    pass


def do_repeat(work, many):
    work.calls[-1].turns.append(many)


def do_again(work, ahead):
    """The end of a repeat: its body once more, or what is behind it."""
    call = work.calls[-1]
    if call.turns[-1] > 1:
        call.turns[-1] -= 1
        call.ahead = ahead
    else:
        call.turns.pop()


def do_return(work, _):
    work.leave_call()
    work.frames.pop()
    return True
