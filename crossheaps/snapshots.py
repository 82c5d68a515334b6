"""Snapshots: what is there, what is alive, and the links between."""
from crossheaps.forms import HOMES, is_name
from crossheaps.nets import net_of
from crossheaps.things import is_integer, is_object

MOST_OBJECTS = 400
SLOTS = 6
GRIPS = ("pin", "hold", "queue")


def is_snapshot(value):
    """Whether any value is a snapshot."""
    if not is_tuple_of(value, 2) or not all([isinstance(part, tuple) for part in value]):
        return False
    roots, objects = value
    if len(objects) > MOST_OBJECTS or not all([is_head(row) for row in objects]):
        return False
    if not is_ascending([row[0] for row in objects]):
        return False
    there = {row[0]: True for row in objects}
    if not all([fits_sort(row[2], row[3], there) for row in objects]):
        return False
    if not all([is_root(row, there) for row in roots]):
        return False
    return is_ascending([row[0] for row in roots])


def is_tuple_of(value, many):
    return isinstance(value, tuple) and len(value) == many


def is_ascending(keys):
    """Whether each key is greater than the one before it."""
    return all([one < other for one, other in zip(keys, keys[1:])])


def is_head(value):
    """Whether any value is (number, home, sort, parts), but for what the parts are."""
    if not is_tuple_of(value, 4):
        return False
    number, home, _, parts = value
    return is_integer(number) and number >= 0 and home in HOMES and isinstance(parts, tuple)


def is_one_of(value, there):
    return is_integer(value) and value in there


def fits_sort(sort, parts, there):
    """Whether the parts are those of an object of this sort, in a snapshot of these objects."""
    if sort == "weak":
        return len(parts) <= 1 and all([is_one_of(target, there) for target in parts])
    if sort == "record":
        return are_slots(parts, there)
    return sort == "map" and are_entries(parts, there)


def are_slots(parts, there):
    for part in parts:
        if not is_tuple_of(part, 2):
            return False
        if not is_integer(part[0]) or not 0 <= part[0] < SLOTS or not is_one_of(part[1], there):
            return False
    return is_ascending([part[0] for part in parts])


def are_entries(parts, there):
    for part in parts:
        if not is_tuple_of(part, 2) or not is_one_of(part[0], there):
            return False
        if part[1] is not None and not is_one_of(part[1], there):
            return False
    return is_ascending([part[0] for part in parts])


def is_root(value, there):
    """Whether any value is a pair (root, number)."""
    if not is_tuple_of(value, 2) or not isinstance(value[0], str):
        return False
    root, number = value
    if not is_one_of(number, there):
        return False
    return is_name(root) or root in [grip_root(grip, number) for grip in GRIPS]


def grip_root(grip, number):
    """The root of an object that is pinned, held or queued."""
    return f"{grip} {number}"


def snapshot(machine):
    """The snapshot of a machine with at most 400 present objects."""
    heap = machine.heap
    roots = [(name, value[1]) for name, value in machine.variables if is_object(value)]
    roots.extend([(grip_root("queue", number), number) for number in machine.queue])
    for number, thing in heap.objects.items():
        if thing.pins > 0:
            roots.append((grip_root("pin", number), number))
        if thing.holds > 0:
            roots.append((grip_root("hold", number), number))
    objects = [(number, thing.home, thing.kind, parts_of(thing))
               for number, thing in heap.objects.items()]
    return (tuple(sorted(roots)), tuple(objects))


def parts_of(thing):
    if thing.kind == "record":
        return tuple([(slot, value[1]) for slot, value in enumerate(thing.slots)
                      if is_object(value)])
    if thing.kind == "map":
        entries = sorted(list(thing.entries))
        return tuple([(key, object_in(thing.entries[key])) for key in entries])
    return () if thing.target is None else (thing.target,)


def object_in(value):
    """The number of the object that a value is, None for an integer."""
    return value[1] if is_object(value) else None


def alive(snapshot):
    """The ascending tuple of the objects in the reach of the roots."""
    return tuple(sorted(list(net_of(snapshot).met({}))))


def links(snapshot):
    """The ascending tuple of the roots, and of the links of what is alive."""
    net = net_of(snapshot)
    return tuple([link for link, _ in net.leads(net.met({}))])
