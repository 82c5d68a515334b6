"""The work at one script: its calls, and what runs within them."""
from crossheaps.calls import Call
from crossheaps.errors import Fault

MOST_CALLS = 24
MOST_EVENTS = 1000000


class Work:
    """A script that is running, one turn after the other.

    `frames` has all that is running, the innermost one last: the script, calls, creations
    and settlings; `calls` has the script and the calls alone. A turn ends when `most` events
    are told. `rows` counts the rows that are done. `word` and `row` tell the fault. A `gauge`,
    if there is one, measures the heap ahead of each creation.
    """

    def __init__(self, heap, policy, procedures, steps):
        self.heap = heap
        self.policy = policy
        self.has_policy = list(policy.values()).count(None) < len(policy)
        self.procedures = procedures
        self.calls = [Call(steps, 0, 0)]
        self.frames = list(self.calls)
        self.most = 1
        self.rows = 0
        self.settles = 0
        self.word = None
        self.row = None
        self.gauge = None

    def is_going(self):
        return len(self.frames) > 0

    def turn(self):
        """Goes on until enough is told, or to the end; by a fault all calls end."""
        try:
            while len(self.frames) > 0 and len(self.heap.events) < self.most:
                self.frames[-1].advance(self)
        except Fault as fault:
            self.word = fault.word
            self.row = fault.row
            while len(self.calls) > 0:
                self.leave_call()
            self.frames = []

    def finish(self):
        """Runs the script to its end and returns its events."""
        self.most = MOST_EVENTS
        told = []
        while self.is_going():
            self.turn()
            told.extend(self.heap.taken())
        if self.word is not None:
            raise Fault(self.word, self.row)
        return told

    def row_now(self):
        return self.calls[-1].row_now()

    def need_depth(self):
        if len(self.calls) > MOST_CALLS:
            raise Fault("deep", self.row_now())

    def call(self, procedure, values):
        """Begins a call with these values."""
        self.heap.begin_scope(procedure.parameters, values)
        self.push_call(procedure)

    def close_first(self):
        """Begins the closing call of the first object of the queue."""
        self.need_depth()
        heap = self.heap
        thing = heap.objects[heap.line[0]]
        procedure = self.procedures[thing.closing]
        heap.tell_loss(("close", thing.number))
        heap.take_first(procedure.parameters[0])
        self.push_call(procedure)

    def push_call(self, procedure):
        call = Call(procedure.steps, procedure.start, procedure.shift)
        self.calls.append(call)
        self.frames.append(call)

    def leave_call(self):
        """Ends the innermost call; the variables of the script stay."""
        if len(self.calls) > 1:
            self.heap.end_scope()
        self.calls.pop()

    def push_settling(self, settling):
        self.settles += 1
        self.frames.append(settling)

    def end_settling(self):
        self.settles -= 1
        self.frames.pop()
