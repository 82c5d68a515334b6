"""Both heaps with their counts, steps and falls.

What is done for each row tests values for objects by isinstance, without a call of is_object.
"""
from crossheaps.graph import reach_of
from crossheaps.pages import Shelf
from crossheaps.things import Thing, closes, object_value, references_of, twin_of


class Sweep:
    """A running cycle: its first new number, how far it is, and the kept objects."""

    def __init__(self, first, marks):
        self.first = first
        self.done = 0
        self.marks = marks


class Heap:
    """The objects, and what holds them.

    `scopes` has the variables of the script, then those of each running call. `suspects` are
    the candidates, `line` is the queue, `sweep` the running cycle; `gripped` are the objects
    with pins or holds, `proxied` those with proxies, `young` the young traced ones, ascending.
    `lost` are the counted objects of which something let go in the current step of a fall or
    a burying; `zeros` are those whose counts came to 0 and which wait for the next falls.
    `losses` counts what settle looks for.
    """

    def __init__(self):
        self.objects = {}
        self.scopes = [{}]
        self.line = []
        self.suspects = {}
        self.gripped = {}
        self.proxied = {}
        self.young = {}
        self.sweep = None
        self.shelf = Shelf()
        self.fresh = 0
        self.events = []
        self.losses = 0
        self.lost = {}
        self.zeros = {}

    def tell(self, event):
        self.events.append(event)

    def taken(self):
        """The events since the last call."""
        events = self.events
        self.events = []
        return events

    def tell_loss(self, event):
        """Tells an event for which settle makes another round."""
        self.events.append(event)
        self.losses += 1

    def gain(self, thing):
        """Counts one more that holds the object."""
        if thing.home == "counted":
            thing.count += 1

    def lose(self, number):
        """Counts one less, unless the object was freed ahead of its holder in the same step.

        In no step an object is both gained and lost: what would do that is left out.
        """
        thing = self.objects.get(number)
        if thing is not None and thing.home == "counted":
            thing.count -= 1
            self.lost[number] = True

    def gain_in(self, holder, number):
        """Counts an object that is stored into another one."""
        thing = self.objects[number]
        if holder.home == "counted":
            self.gain(thing)
        elif thing.home == "counted" and thing.proxy is None:
            self.gain(thing)
            thing.proxy = 0
            self.proxied[number] = True

    def lose_in(self, holder, value):
        """Counts a value that an object lets go; the proxies of traced holders stay."""
        if isinstance(value, tuple) and holder.home == "counted":
            self.lose(value[1])

    def end_step(self):
        """What is behind each step, but for its falls."""
        for number in sorted(list(self.lost)):
            if number in self.objects:
                if self.objects[number].count == 0:
                    self.zeros[number] = True
                else:
                    self.suspects.setdefault(number, True)
        self.lost = {}

    def fallen(self):
        """The objects that join the falling list now, ascending."""
        found = []
        for number in sorted(list(self.zeros)):
            if number in self.objects and self.objects[number].count == 0:
                found.append(number)
        self.zeros = {}
        return found

    def fall(self, falling):
        """The falls that begin with these objects, ascending."""
        at = 0
        while at < len(falling):
            self.give_up(self.objects[falling[at]])
            if len(self.lost) > 0:
                self.end_step()
                falling.extend(self.fallen())
            at += 1

    def lessen(self, number):
        """The step of a statement, with its falls, in which one lets go of the object."""
        thing = self.objects[number]
        if thing.home == "counted":
            thing.count -= 1
            if thing.count > 0:
                self.suspects.setdefault(number, True)
            else:
                self.fall([number])

    def give_up(self, thing):
        """Clears and removes what stands by a falling object, then queues or frees it."""
        for weak in sorted(list(thing.weaks)):
            self.clear_weak(weak)
        for owner in sorted(list(thing.maps)):
            self.unkey(owner, thing.number)
        if closes(thing):
            self.enqueue(thing)
        else:
            self.free(thing)

    def clear_weak(self, number):
        weak = self.objects[number]
        del self.objects[weak.target].weaks[number]
        weak.target = None
        self.tell_loss(("clear", number))

    def unkey(self, number, key):
        owner = self.objects[number]
        value = owner.entries[key]
        self.cut_entry(owner, key)
        self.lose_in(owner, value)
        self.tell_loss(("unkey", number, key))

    def cut_entry(self, owner, key):
        """Removes an entry without an event."""
        del owner.entries[key]
        del self.objects[key].maps[owner.number]

    def enqueue(self, thing):
        thing.queued = True
        self.line.append(thing.number)
        self.gain(thing)
        self.tell_loss(("queue", thing.number))
        self.keep(thing.number)

    def keep(self, number):
        """Keeps more if an object that the running cycle has given up comes back."""
        sweep = self.sweep
        if sweep is None or number >= sweep.first or number in sweep.marks:
            return
        starts = [other for other in self.objects if other >= sweep.first]
        starts = starts + list(sweep.marks) + self.line + [number]
        reach = reach_of(self, starts)
        sweep.marks = {other: True for other in reach if other < sweep.first}

    def free(self, thing):
        number = thing.number
        del self.objects[number]
        self.forget(thing)
        if thing.home == "counted":
            for other in references_of(thing):
                self.lose(other)
        self.tell_loss(("free", number))

    def forget(self, thing):
        """Takes a freed object off all that names it."""
        number = thing.number
        if number in self.suspects:
            del self.suspects[number]
        if self.sweep is not None and number in self.sweep.marks:
            del self.sweep.marks[number]
        if number in self.proxied:
            del self.proxied[number]
        if thing.home == "traced":
            self.shelf.take(number)
            if number in self.young:
                del self.young[number]
        # What it names is there: targets are cleared, and entries removed, ahead of all frees.
        if thing.target is not None:
            del self.objects[thing.target].weaks[number]
        for key in thing.entries:
            del self.objects[key].maps[number]

    def unproxy(self, thing):
        thing.proxy = None
        del self.proxied[thing.number]
        self.lose(thing.number)
        self.tell_loss(("unproxy", thing.number))

    def scope_of(self, name):
        """The variables among which a name is looked for; a global one has a capital."""
        return self.scopes[-1] if name.islower() else self.scopes[0]

    def assign(self, name, value):
        """The step of an assignment of a variable."""
        scope = self.scopes[-1] if name.islower() else self.scopes[0]
        old = scope.get(name)
        scope[name] = value
        if value == old:
            return
        if isinstance(value, tuple):
            self.gain(self.objects[value[1]])
        if isinstance(old, tuple):
            self.lessen(old[1])

    def begin_scope(self, names, values):
        """The variables of a call: parameters with these values."""
        for value in values:
            if isinstance(value, tuple):
                self.gain(self.objects[value[1]])
        self.scopes.append(dict(zip(names, values)))

    def end_scope(self):
        """Drops the variables of the innermost call."""
        scope = self.scopes[-1]
        for name in list(scope):
            value = scope.pop(name)
            if isinstance(value, tuple):
                self.lessen(value[1])
        self.scopes.pop()

    def unset(self, scope, name):
        """The step of a drop."""
        value = scope.pop(name)
        if isinstance(value, tuple):
            self.lessen(value[1])

    def store(self, holder, slot, value):
        """The step of an assignment of a slot."""
        old = holder.slots[slot]
        if value == old:
            return
        holder.slots[slot] = value
        if isinstance(value, tuple):
            self.gain_in(holder, value[1])
        if isinstance(old, tuple) and holder.home == "counted":
            self.lessen(old[1])

    def enter(self, owner, key, value):
        """The step of an assignment of an entry."""
        old = owner.entries.get(key)
        if value == old:
            return
        if value is None:
            self.cut_entry(owner, key)
        else:
            owner.entries[key] = value
            self.objects[key].maps[owner.number] = True
            if isinstance(value, tuple):
                self.gain_in(owner, value[1])
        if isinstance(old, tuple) and owner.home == "counted":
            self.lessen(old[1])

    def add_hold(self, thing):
        thing.holds += 1
        self.grip(thing)

    def end_hold(self, thing):
        thing.holds -= 1
        self.let_go(thing)

    def add_pin(self, thing):
        thing.pins += 1
        self.grip(thing)

    def end_pin(self, thing):
        thing.pins -= 1
        self.let_go(thing)

    def grip(self, thing):
        """Counts one more pin or hold."""
        self.gripped[thing.number] = True
        self.gain(thing)

    def let_go(self, thing):
        """The step in which a pin or a hold ends."""
        if thing.pins == 0 and thing.holds == 0:
            del self.gripped[thing.number]
        self.lessen(thing.number)

    def take_first(self, name):
        """The step in which the first object of the queue becomes the parameter of its call."""
        # It is held by the parameter instead, so that its count stays.
        self.scopes.append({name: object_value(self.line[0])})
        self.line = self.line[1:]

    def new_thing(self, home, kind):
        """A new object that nothing holds yet."""
        thing = Thing(self.fresh, home, kind)
        self.fresh += 1
        self.objects[thing.number] = thing
        if home == "traced":
            self.young[thing.number] = True
            self.house(thing)
        return thing

    def house(self, thing):
        """Gives a new traced object its place."""
        place = self.shelf.room("young", {})
        if place is None:
            page = self.shelf.make("young")
            self.tell(("page", page, "young"))
            place = (page, 0)
        self.shelf.put(thing.number, place)

    def aim(self, weak, thing):
        """Gives a new weak object its target."""
        weak.target = thing.number
        thing.weaks[weak.number] = True

    def twin(self):
        """An independent heap that is the same, outside of a run."""
        other = Heap()
        other.objects = {number: twin_of(self.objects[number]) for number in self.objects}
        other.scopes = [dict(scope) for scope in self.scopes]
        other.line = list(self.line)
        other.suspects = dict(self.suspects)
        other.gripped = dict(self.gripped)
        other.proxied = dict(self.proxied)
        other.young = dict(self.young)
        if self.sweep is not None:
            other.sweep = Sweep(self.sweep.first, dict(self.sweep.marks))
            other.sweep.done = self.sweep.done
        other.shelf = self.shelf.twin()
        other.fresh = self.fresh
        return other
