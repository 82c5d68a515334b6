"""What takes several turns: creations with their policy, and settling."""
from crossheaps.checks import thing_named
from crossheaps.collect import begin, finish, go_on, minor
from crossheaps.errors import Fault
from crossheaps.things import is_young, object_value

MOST_ROUNDS = 50


class Settling:
    """A settle that is running."""

    def __init__(self, losses):
        self.losses = losses
        self.rounds = 0

    def advance(self, work):
        """Makes the next closing call, or ends the round."""
        heap = work.heap
        if len(heap.line) > 0:
            work.close_first()
            return
        finish(heap)
        begin(heap)
        finish(heap)
        self.rounds += 1
        if heap.losses == self.losses or self.rounds == MOST_ROUNDS:
            work.end_settling()
        self.losses = heap.losses


class Making:
    """A creation that is running."""

    def __init__(self, name, source):
        self.name = name
        self.source = source
        self.is_asked = False

    def advance(self, work):
        """Asks the policy, which may settle first; then creates the object."""
        if not self.is_asked:
            self.is_asked = True
            if work.gauge is not None:
                work.gauge.measure(work.heap)
            if work.settles == 0:
                collect_ahead(work, self.source[1])
                if is_full(work):
                    work.push_settling(Settling(work.heap.losses))
                    return
        elif is_full(work):
            raise Fault("full", work.row_now())
        create(work, self.name, self.source)
        work.end_making()


def collect_ahead(work, home):
    """The parts of the policy that collect, ahead of a creation in a home."""
    heap = work.heap
    policy = work.policy
    if home == "traced" and policy["young"] is not None:
        if young_count(heap) >= policy["young"]:
            minor(heap, 1)
    if policy["start"] is not None and len(heap.objects) >= policy["start"]:
        begin(heap)
    if policy["pace"] is not None:
        go_on(heap, policy["pace"])


def young_count(heap):
    return len([thing for thing in heap.objects.values() if is_young(thing)])


def is_full(work):
    limit = work.policy["limit"]
    return limit is not None and len(work.heap.objects) >= limit


def create(work, name, source):
    heap = work.heap
    target = None
    if source[0] == "weak":
        # A closing call of the policy may have changed or dropped the variable.
        target = thing_named(work, source[2])
    thing = heap.new_thing(source[1], source[0])
    if source[0] == "record":
        thing.slots = [None] * source[2]
        thing.closing = source[3]
    if target is not None:
        heap.aim(thing, target.number)
    heap.assign(heap.scope_of(name), name, object_value(thing.number))
