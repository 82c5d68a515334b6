"""Machines: scripts run on both heaps."""
from crossheaps.errors import BadPolicy, Fault, NoObject
from crossheaps.graph import reach_of, roots_of
from crossheaps.heap import Heap
from crossheaps.programs import procedures_in, steps_of
from crossheaps.scripts import examine, statements_of
from crossheaps.things import is_integer
from crossheaps.work import Work

MOST_POLICY = 10000


class Machine:
    """Both heaps with their policy and the procedures of the scripts that ran."""

    def __init__(self, *, young=None, start=None, pace=None, limit=None):
        self.policy = {"young": young, "start": start, "pace": pace, "limit": limit}
        for word, value in self.policy.items():
            if value is not None and not (is_integer(value) and 1 <= value <= MOST_POLICY):
                raise BadPolicy(word)
        self.procedures = {}
        self.heap = Heap()

    def begun(self, text):
        """The work at a script that nothing is done of yet."""
        statements = statements_of(text)
        known = {name: len(self.procedures[name].parameters) for name in self.procedures}
        partners = examine(statements, known)
        steps = steps_of(statements, partners)
        if len(partners) > 0:
            self.procedures.update(procedures_in(text, statements, partners, steps))
        return Work(self.heap, self.policy, self.procedures, steps)

    def run(self, text):
        """The events of a script, each one given when it happens."""
        work = self.begun(text)
        while work.is_going():
            work.turn()
            for event in work.heap.taken():
                yield event
        if work.word is not None:
            raise Fault(work.word, work.row)

    def told(self, text):
        """Runs a script to its end and returns the tuple of its events."""
        work = self.begun(text)
        return tuple(work.finish())

    def copy(self):
        """An independent machine in the same state."""
        policy = self.policy
        other = Machine(young=policy["young"], start=policy["start"], pace=policy["pace"],
                        limit=policy["limit"])
        other.procedures = dict(self.procedures)
        other.heap = self.heap.twin()
        return other

    def reach(self):
        """The ascending tuple of the reachable objects."""
        return tuple(sorted(list(reach_of(self.heap, roots_of(self.heap)))))

    @property
    def present(self):
        """The ascending tuple of the numbers of the present objects."""
        return tuple(self.heap.objects)

    @property
    def variables(self):
        """The ascending tuple of the pairs (name, value)."""
        return tuple(sorted(list(self.heap.scopes[0].items())))

    @property
    def queue(self):
        """The objects whose closing procedures are still to be called."""
        return tuple(self.heap.line)

    @property
    def candidates(self):
        """The candidates of rings, in their order."""
        return tuple(self.heap.suspects)

    @property
    def kept(self):
        """The ascending tuple of the kept objects of the running cycle."""
        sweep = self.heap.sweep
        return () if sweep is None else tuple(sorted(list(sweep.marks)))

    @property
    def cycle(self):
        """None, or the running cycle as (first, done)."""
        sweep = self.heap.sweep
        return None if sweep is None else (sweep.first, sweep.done)

    @property
    def pages(self):
        """The ascending tuple of (page, kind, cells)."""
        shelf = self.heap.shelf
        return tuple([(page, shelf.kinds[page], tuple(shelf.cells[page])) for page in shelf.cells])

    @property
    def next_number(self):
        """The number that the next object will have."""
        return self.heap.fresh

    def count_of(self, number):
        """The count of a counted object."""
        return self.thing_of(number, "counted").count

    def age_of(self, number):
        """The age of a traced object."""
        return self.thing_of(number, "traced").age

    def proxy_of(self, number):
        """The age of the proxy of a counted object, None without one."""
        return self.thing_of(number, "counted").proxy

    def place_of(self, number):
        """The place (page, cell) of a traced object."""
        return self.heap.shelf.places[self.thing_of(number, "traced").number]

    def thing_of(self, number, home):
        """The present object of the home, of any home for None."""
        if number not in self:
            raise NoObject(number)
        thing = self.heap.objects[number]
        if home is not None and thing.home != home:
            raise NoObject(number)
        return thing

    def __getitem__(self, number):
        thing = self.thing_of(number, None)
        if thing.kind == "record":
            return (thing.home, thing.kind, tuple(thing.slots))
        if thing.kind == "map":
            return (thing.home, thing.kind, tuple(sorted(list(thing.entries.items()))))
        return (thing.home, thing.kind, () if thing.target is None else (thing.target,))

    def __contains__(self, number):
        return is_integer(number) and number in self.heap.objects

    def __len__(self):
        return len(self.heap.objects)

    def __iter__(self):
        raise TypeError("a machine cannot be iterated over")
