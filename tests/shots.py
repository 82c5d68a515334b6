"""Drawn snapshots, for a given random source, and the snapshots of machines."""
from crossheaps.machine import Machine
from crossheaps.snapshots import snapshot
from tests.helpers import ended
from tests.makers import CLOSING, RowMaker, begun

EMPTY = ((), ())
# An entry whose key lives by its own value; a map that is its own key; an object beyond reach.
KEYED = ((("m", 0),), ((0, "traced", "map", ((1, 2), (4, None))), (1, "counted", "record", ()),
                       (2, "counted", "record", ((0, 1),)), (4, "traced", "weak", (1,))))
SELF = ((("m", 7),), ((7, "counted", "map", ((7, 9),)), (9, "traced", "record", ((3, 9), (5, 12))),
                      (12, "traced", "weak", ()), (30, "counted", "record", ((0, 7),))))


def chain(many):
    """A snapshot of so many records, each one in a slot of the one before it."""
    objects = [(n, "counted", "record", ((0, n + 1),) if n + 1 < many else ())
               for n in range(many)]
    return ((("a", 0),) if many else (), tuple(objects))


def drawn(random, many, maps=0.4):
    """A snapshot of so many objects, with gaps between their numbers."""
    numbers = sorted(random.sample(range(2 * many + 3), many))
    objects = []
    for number in numbers:
        kind = random.random()
        if kind < maps:
            keys = sorted(random.sample(numbers, min(many, random.randint(0, 4))))
            parts = [(key, random.choice(numbers + [None])) for key in keys]
            sort = "map"
        elif kind < maps + 0.1:
            parts, sort = random.sample(numbers, random.randint(0, 1)), "weak"
        else:
            slots = sorted(random.sample(range(6), random.choice([0, 0, 1, 1, 2, 3])))
            parts, sort = [(slot, random.choice(numbers)) for slot in slots], "record"
        objects.append((number, random.choice(["counted", "traced"]), sort, tuple(parts)))
    return (drawn_roots(random, numbers), tuple(objects))


def drawn_roots(random, numbers):
    roots = {}
    for _ in range(random.randint(0, 4) if numbers else 0):
        number = random.choice(numbers)
        root = random.choice(["a", "b", "pin", "hold", "queue", "Z"])
        if root in ("pin", "hold", "queue"):
            root = f"{root} {number}"
        roots[root] = number
    return tuple(sorted(roots.items()))


def lived(random, rows):
    """A machine that did a random history of so many rows."""
    machine = Machine()
    machine.told(begun())
    maker = RowMaker(random, CLOSING, {"hold": 3, "pin": 3, "create": 12, "drop": 4})
    for _ in range(rows):
        ended(machine, maker.row(machine.variables, lambda number: machine[number][1],
                                 lambda number: len(machine[number][2])))
    return machine


def shots(random, many):
    """So many snapshots: drawn ones of several sizes, and those of machines."""
    found = [EMPTY, KEYED, SELF, chain(9)]
    while len(found) < many:
        if len(found) % 4 == 0:
            found.append(snapshot(lived(random, 50)))
        else:
            found.append(drawn(random, random.randint(0, 14), random.choice([0, 0.3, 0.6, 0.9])))
    return found


def grown(random, shot):
    """The snapshot later: with further objects, and some changed slots and entries."""
    roots, objects = shot
    last = objects[-1][0] if objects else -1
    further = [last + 1 + 2 * at for at in range(random.randint(0, 6))]
    numbers = [row[0] for row in objects] + further
    later = []
    for number, home, sort, parts in objects:
        parts = dict(parts) if sort != "weak" else parts
        if sort == "record" and numbers:
            parts[random.randrange(6)] = random.choice(numbers)
        elif sort == "map" and numbers:
            parts[random.choice(numbers)] = random.choice(numbers)
        later.append((number, home, sort, parts if sort == "weak" else tuple(sorted(parts.items()))))
    for number in further:
        slots = sorted(random.sample(range(6), random.randint(0, 2)))
        later.append((number, "traced", "record",
                      tuple((slot, random.choice(numbers)) for slot in slots)))
    return (roots + ((("z", further[0]),) if further and random.random() < 0.2 else ()),
            tuple(later))


def wide(random, many):
    """A snapshot of so many objects that are mostly alive."""
    objects = []
    for number in range(many):
        later = [random.randint(number, min(many, number + 30) - 1) for _ in range(3)]
        if random.random() < 0.2:
            parts = tuple(sorted({other: random.randrange(many) for other in later}.items()))
            objects.append((number, "traced", "map", parts))
        else:
            parts = tuple(enumerate(later[:random.randint(1, 3)]))
            objects.append((number, "counted", "record", parts))
    return ((("a", 0), ("b", many // 4), ("c", many // 2), ("d", 3)), tuple(objects))
