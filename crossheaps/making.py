"""What takes several turns: creations with their policy, and settling."""
from crossheaps.checks import thing_named
from crossheaps.collect import begin, finish, go_on, minor
from crossheaps.errors import Fault
from crossheaps.things import object_value

MOST_ROUNDS = 50


class Settling:
    """A settle that is running."""

    def __init__(self, losses):
        self.losses = losses
        self.rounds = 0

    def advance(self, work):
        """Makes the next closing call, or ends the round."""
        heap = work.heap
        if len(heap.line) > 0:
            work.close_first()
            return
        finish(heap)
        begin(heap)
        finish(heap)
        self.rounds += 1
        if heap.losses == self.losses or self.rounds == MOST_ROUNDS:
            work.end_settling()
        self.losses = heap.losses


class Making:
    """A creation that is running, ahead of which the policy works."""

    def __init__(self, statement):
        self.statement = statement
        self.is_asked = False

    def advance(self, work):
        """Asks the policy, which may settle first; then creates the object."""
        if not self.is_asked:
            self.is_asked = True
            collect_ahead(work, self.statement[3])
            if is_full(work):
                work.push_settling(Settling(work.heap.losses))
                return
        elif is_full(work):
            raise Fault("full", work.row_now())
        # A closing call of the policy may have changed or dropped the variable.
        create(work, self.statement, target_of(work, self.statement))
        work.frames.pop()


def collect_ahead(work, home):
    """The parts of the policy that collect, ahead of a creation in a home."""
    heap = work.heap
    policy = work.policy
    if home == "traced" and policy["young"] is not None:
        if len(heap.young) >= policy["young"]:
            minor(heap, 1)
    if policy["start"] is not None and len(heap.objects) >= policy["start"]:
        begin(heap)
    if policy["pace"] is not None:
        go_on(heap, policy["pace"])


def is_full(work):
    limit = work.policy["limit"]
    return limit is not None and len(work.heap.objects) >= limit


def create(work, statement, target):
    """Creates an object and assigns it; the target is that of a weak object, or None."""
    heap = work.heap
    thing = heap.new_thing(statement[3], statement[2])
    if target is not None:
        heap.aim(thing, target)
    elif statement[2] == "record":
        thing.slots = [None] * statement[4]
        thing.closing = statement[5]
    heap.assign(statement[1], object_value(thing.number))


def target_of(work, statement):
    """The object at which a new weak object aims, None for other objects."""
    return thing_named(work, statement[4]) if statement[2] == "weak" else None
