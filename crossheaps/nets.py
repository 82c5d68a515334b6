"""Snapshots as nets: what leads where in them."""
from crossheaps.errors import NoLink, NoObject
from crossheaps.things import is_integer

# The sorts of the objects that have such links.
HOLDERS = {"slot": "record", "entry": "map"}


class Net:
    """The roots of a snapshot, and the sort and parts of each object by its number.

    Entries without an object as value are left out.
    """

    def __init__(self, roots, rows):
        self.roots = roots
        self.rows = rows

    def met(self, barred):
        """The reach of the roots if the objects in barred are not there, as a dict of True."""
        found = {}
        waiting = {}
        ahead = [number for _, number in self.roots]
        while len(ahead) > 0:
            number = ahead.pop()
            if number in found or number in barred:
                continue
            found[number] = True
            sort, parts = self.rows[number]
            if sort == "record":
                ahead.extend([other for _, other in parts])
            elif sort == "map":
                # A value waits for its key, which may be met later than its map.
                for key, other in parts:
                    if key in found:
                        ahead.append(other)
                    else:
                        waiting.setdefault(key, []).append(other)
            if number in waiting:
                ahead.extend(waiting[number])
        return found

    def leads(self, alive):
        """The pairs (link, object to which it leads) of what is alive, ascending."""
        entries = []
        slots = []
        for number in sorted(list(alive)):
            sort, parts = self.rows[number]
            if sort == "record":
                slots.extend([(("slot", number, slot), other) for slot, other in parts])
            elif sort == "map":
                entries.extend([(("entry", number, key), other)
                                for key, other in parts if key in alive])
        return entries + [(("root", root), number) for root, number in self.roots] + slots

    def led_to(self, link):
        """The object to which something of the form of a link leads, None if it is none."""
        if link[0] == "root":
            return dict(self.roots).get(link[1])
        if link[1] not in self.rows:
            return None
        sort, parts = self.rows[link[1]]
        return dict(parts).get(link[2]) if sort == HOLDERS[link[0]] else None

    def without(self, links):
        """The net without these links, which it has."""
        gone = {link: True for link in links}
        roots = [pair for pair in self.roots if ("root", pair[0]) not in gone]
        rows = dict(self.rows)
        for link in links:
            if link[0] != "root":
                sort, parts = rows[link[1]]
                rows[link[1]] = (sort, [part for part in parts if part[0] != link[2]])
        return Net(roots, rows)


def net_of(snapshot):
    """The net of a snapshot."""
    roots, objects = snapshot
    rows = {}
    for number, _, sort, parts in objects:
        if sort == "map":
            parts = [part for part in parts if part[1] is not None]
        rows[number] = (sort, parts)
    return Net(roots, rows)


def is_link(value):
    """Whether any value has the form of a link."""
    if not isinstance(value, tuple) or len(value) == 0:
        return False
    if value[0] == "root":
        return len(value) == 2 and isinstance(value[1], str)
    if value[0] in ("slot", "entry"):
        return len(value) == 3 and is_integer(value[1]) and is_integer(value[2])
    return False


def sources_of(link):
    """The objects that must be alive for a link to lead."""
    if link[0] == "root":
        return ()
    return link[1:2] if link[0] == "slot" else link[1:]


def need_objects(net, values):
    """Raises NoObject with the first value that is not the number of an object."""
    for value in values:
        if not is_integer(value) or value not in net.rows:
            raise NoObject(value)


def need_links(net, alive, values):
    """Raises NoLink with the first value that is not a link of what is alive."""
    for value in values:
        if not is_link(value) or net.led_to(value) is None:
            raise NoLink(value)
        if not all([number in alive for number in sources_of(value)]):
            raise NoLink(value)
