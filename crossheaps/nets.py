"""Snapshots as nets: their links, what these need, and to what they lead.

An arc is (link, sources, target): where all sources are alive, the link leads to the target.
"""
from crossheaps.errors import NoLink, NoObject
from crossheaps.things import is_integer


class Net:
    """Arcs, and for how many sources each of them still waits."""

    def __init__(self, arcs):
        self.arcs = arcs
        self.missing = [len(sources) for _, sources, _ in arcs]
        self.waiting = {}
        for at, (_, sources, _) in enumerate(arcs):
            # A map that is its own key is waited for twice, and found twice.
            for source in sources:
                self.waiting.setdefault(source, []).append(at)

    def begun(self):
        """The arcs that need nothing."""
        return [arc for arc in self.arcs if len(arc[1]) == 0]

    def opened(self, number):
        """The arcs that waited for this object alone; to be asked once for each object."""
        found = []
        for at in self.waiting.get(number, []):
            self.missing[at] -= 1
            if self.missing[at] == 0:
                found.append(self.arcs[at])
        return found


def arcs_of(snapshot):
    """The arcs of all roots, of all slots, and of all entries with an object as value."""
    roots, objects = snapshot
    found = [(("root", root), (), number) for root, number in roots]
    for number, _, sort, parts in objects:
        if sort == "record":
            for slot, other in parts:
                found.append((("slot", number, slot), (number,), other))
        elif sort == "map":
            for key, other in parts:
                if other is not None:
                    found.append((("entry", number, key), (number, key), other))
    return found


def met_by(arcs):
    """The objects to which the arcs lead, as a dict of True."""
    net = Net(arcs)
    met = {}
    ahead = net.begun()
    while len(ahead) > 0:
        number = ahead.pop()[2]
        if number not in met:
            met[number] = True
            ahead.extend(net.opened(number))
    return met


def alive_arcs(arcs):
    """The arcs whose sources are alive."""
    met = met_by(arcs)
    return [arc for arc in arcs if all([source in met for source in arc[1]])]


def is_link(value):
    """Whether any value has the form of a link."""
    if not isinstance(value, tuple) or len(value) == 0:
        return False
    if value[0] == "root":
        return len(value) == 2 and isinstance(value[1], str)
    if value[0] in ("slot", "entry"):
        return len(value) == 3 and is_integer(value[1]) and is_integer(value[2])
    return False


def need_objects(snapshot, values):
    """Raises NoObject with the first value that is not the number of an object."""
    there = {number: True for number, _, _, _ in snapshot[1]}
    for value in values:
        if not is_integer(value) or value not in there:
            raise NoObject(value)


def need_links(arcs, values):
    """Raises NoLink with the first value that is not the link of one of the arcs."""
    there = {link: True for link, _, _ in arcs}
    for value in values:
        if not is_link(value) or value not in there:
            raise NoLink(value)
