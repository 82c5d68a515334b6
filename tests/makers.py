"""Random rows and scripts, for a given random source."""

NAMES = ["a", "b", "c", "d", "e", "f", "g", "Hat", "Ink", "Jar"]

PROCEDURES = """proc bye x
say x
end
proc saver x
let Hat = x
end
proc chain x
let y = record traced 2
y.0 = x
y.1 = Jar
let Jar = y
end
proc watch x
let Ink = weak counted x
end
proc knot x
let y = record counted 2 then bye
y.0 = y
y.1 = x
end
proc sweeper x
minor
rings 3
begin
slice 1
end
proc calm x
let y = x
settle
end
proc fail x
let y = record counted 1 then bye
say nothing
end
proc lister x
let m = map traced
m at x = x
let Jar = m
drop Ink
let Ink = none
end"""

CLOSING = ["bye", "saver", "chain", "watch", "knot", "sweeper", "lister"]


def begun():
    """A first script: the procedures, and values for the names that they use."""
    return "let Hat = none\nlet Ink = none\nlet Jar = none\n" + PROCEDURES


def named_by_sort(variables, sort_of):
    """The names of variables by the sorts of their objects, None for other values."""
    found = {"record": [], "weak": [], "map": [], None: []}
    for name, value in variables:
        sort = sort_of(value[1]) if isinstance(value, tuple) else None
        found[sort].append(name)
    return found


def value_word(random, names):
    """A value: mostly a variable."""
    if names and random.random() < 0.85:
        return random.choice(names)
    return random.choice(["none", "0", "-5", "1000000000", "17"])


class RowMaker:
    """Makes rows that mostly can be done in the state of a machine."""

    def __init__(self, random, closing=CLOSING, weights=None):
        self.random = random
        self.closing = closing
        self.weights = {
            "create": 10, "store": 12, "enter": 6, "read": 6, "drop": 7, "hold": 1,
            "pin": 1, "minor": 2, "rings": 3, "begin": 2, "slice": 3, "compact": 1,
            "finalize": 2, "settle": 0.3, "say": 2, "copy": 3, "none": 3,
        }
        self.weights.update(weights or {})

    def row(self, variables, sort_of, slots_of):
        """A row for these variables; the functions tell of objects by their numbers."""
        known = named_by_sort(variables, sort_of)
        objects = known["record"] + known["weak"] + known["map"]
        kinds = list(self.weights)
        for _ in range(30):
            kind = self.random.choices(kinds, [self.weights[k] for k in kinds])[0]
            row = getattr(self, kind)(known, objects, dict(variables), slots_of)
            if row is not None:
                return row
        return "minor"

    def home(self):
        return self.random.choice(["counted", "traced"])

    def create(self, known, objects, values, slots_of):
        random = self.random
        name = random.choice(NAMES)
        kind = random.random()
        if kind < 0.65:
            row = f"let {name} = record {self.home()} {random.randint(0, 4)}"
            if self.closing and random.random() < 0.3:
                row += f" then {random.choice(self.closing)}"
            return row
        if kind < 0.8 and objects:
            return f"let {name} = weak {self.home()} {random.choice(objects)}"
        return f"let {name} = map {self.home()}"

    def store(self, known, objects, values, slots_of):
        fit = [name for name in known["record"] if slots_of(values[name][1]) > 0]
        if not fit:
            return None
        name = self.random.choice(fit)
        slot = self.random.randrange(slots_of(values[name][1]))
        return f"{name}.{slot} = {value_word(self.random, objects)}"

    def none(self, known, objects, values, slots_of):
        row = self.store(known, objects, values, slots_of)
        return None if row is None else row.split(" ")[0] + " = none"

    def enter(self, known, objects, values, slots_of):
        if not known["map"]:
            return None
        name = self.random.choice(known["map"])
        return f"{name} at {self.random.choice(objects)} = {value_word(self.random, objects)}"

    def asked(self, known, objects, values, slots_of):
        random = self.random
        kind = random.randrange(3)
        fit = [name for name in known["record"] if slots_of(values[name][1]) > 0]
        if kind == 0 and fit:
            name = random.choice(fit)
            return f"{name}.{random.randrange(slots_of(values[name][1]))}"
        if kind == 1 and known["weak"]:
            return f"get {random.choice(known['weak'])}"
        if kind == 2 and known["map"]:
            return f"{random.choice(known['map'])} at {random.choice(objects)}"
        return None

    def read(self, *told):
        asked = self.asked(*told)
        return None if asked is None else f"let {self.random.choice(NAMES)} = {asked}"

    def say(self, *told):
        asked = self.asked(*told)
        return None if asked is None else f"say {asked}"

    def copy(self, known, objects, values, slots_of):
        return f"let {self.random.choice(NAMES)} = {value_word(self.random, list(values))}"

    def drop(self, known, objects, values, slots_of):
        return f"drop {self.random.choice(list(values))}" if values else None

    def hold(self, known, objects, values, slots_of):
        word = self.random.choice(["hold", "release"])
        return f"{word} {self.random.choice(objects)}" if objects else None

    def pin(self, known, objects, values, slots_of):
        word = self.random.choice(["pin", "unpin"])
        return f"{word} {self.random.choice(objects)}" if objects else None

    def minor(self, *_):
        return "minor"

    def rings(self, *_):
        return f"rings {self.random.choice([1, 2, 5, 10000])}"

    def begin(self, *_):
        return "begin"

    def slice(self, *_):
        return f"slice {self.random.choice([0, 1, 2, 5, 100])}"

    def compact(self, *_):
        return f"compact {self.random.choice([0, 1, 3, 10, 100])}"

    def finalize(self, *_):
        return "finalize"

    def settle(self, *_):
        return "settle"


def policy_of(random):
    """A policy, mostly of a few parts."""
    return {
        "young": random.choice([None, None, 1, 3, 8]),
        "start": random.choice([None, None, 2, 6, 12]),
        "pace": random.choice([None, None, 1, 3, 10]),
        "limit": random.choice([None, None, None, 6, 15]),
    }


def block_script(random, size):
    """A script with blocks, procedures and calls, of which many rows cannot be done."""
    procs = [("pone", []), ("ptwo", ["x"]), ("pthree", ["x", "y"])]
    rows = block_rows(random, size, procs, 0)
    for name, names in procs:
        rows += [" ".join(["proc", name] + names)]
        rows += block_rows(random, 6, procs, 1) + ["end"]
    return "\n".join(rows)


def block_rows(random, size, procs, depth):
    rows = []
    names = ["x", "y", "a", "Hat", "b"]
    for _ in range(random.randint(1, size)):
        kind = random.random()
        name, other = random.choice(names), random.choice(names)
        if kind < 0.1 and depth < 4:
            rows += [f"if {name} is {value_word(random, names)}"]
            rows += block_rows(random, 3, procs, depth + 1)
            if random.random() < 0.5:
                rows += ["else"] + block_rows(random, 3, procs, depth + 1)
            rows += ["end"]
        elif kind < 0.18 and depth < 4:
            rows += [f"repeat {random.randint(0, 3)}"]
            rows += block_rows(random, 3, procs, depth + 1) + ["end"]
        elif kind < 0.3:
            proc, wanted = random.choice(procs)
            rows += [" ".join(["do", proc] + [value_word(random, names) for _ in wanted])]
        elif kind < 0.55:
            rows += [f"let {name} = record {random.choice(['counted', 'traced'])} 2"
                     + random.choice(["", "", " then ptwo"])]
        elif kind < 0.6:
            rows += [f"let {name} = {value_word(random, names)}"]
        elif kind < 0.7:
            rows += [f"{name}.{random.randint(0, 2)} = {value_word(random, names)}"]
        elif kind < 0.73:
            rows += [f"drop {name}"]
        elif kind < 0.8:
            rows += [f"say {random.choice([name, other + '.0', 'get ' + name])}"]
        else:
            rows += [random.choice(["minor", "rings 2", "begin", "slice 3", "compact 4",
                                    "finalize", "settle", f"hold {name}", f"release {name}",
                                    f"let {name} = weak traced {other}",
                                    f"let {name} = map counted", f"{name} at {other} = {name}",
                                    f"pin {name}", f"unpin {name}"])]
    return rows


# What the names of plain scripts hold, if anything.
SORTED = {"record": ["a", "b", "c", "Hat"], "map": ["m", "n"], "whole": ["i", "j"]}


class PlainMaker:
    """Makes scripts without weak objects and closing procedures, most of which end well.

    Each name holds a record of two slots, a map or an integer. What is read from slots and
    entries is only used behind a test.
    """

    def __init__(self, random):
        self.random = random

    def script(self, size):
        """Procedures are called by the script, and by those ahead of them."""
        rows = self.begun([]) + self.rows(size, ["pone", "ptwo"], 0)
        for name, names, others in (("pone", ["a", "m"], ["ptwo"]), ("ptwo", ["b"], [])):
            rows += [" ".join(["proc", name] + names)] + self.begun(names)
            rows += self.rows(5, others, 1) + ["end"]
        return "\n".join(rows)

    def begun(self, there):
        """Rows that set the other names; now and then one is left out."""
        names = [name for sort in SORTED for name in SORTED[sort] if name not in there]
        self.random.shuffle(names)
        if self.random.random() < 0.1:
            names.pop()
        return [self.fresh(name) for name in names if name != "Hat" or not there]

    def fresh(self, name):
        home = self.random.choice(["counted", "traced"])
        if name in SORTED["whole"]:
            return f"let {name} = {self.random.randint(-3, 3)}"
        return f"let {name} = " + (f"map {home}" if name in SORTED["map"] else f"record {home} 2")

    def name(self, sort):
        return self.random.choice(SORTED[sort])

    def rows(self, size, procs, depth):
        rows = []
        for _ in range(self.random.randint(0, size)):
            kind = self.random.random()
            if kind < 0.3 and depth < 4:
                rows += self.block(procs, depth)
            elif kind < 0.4 and procs:
                name = self.random.choice(procs)
                rows += [f"do {name} {self.name('record')}"
                         + (f" {self.name('map')}" if name == "pone" else "")]
            else:
                rows += self.simple()
        return rows

    def block(self, procs, depth):
        random = self.random
        body = self.rows(3, procs, depth + 1)
        if random.random() < 0.5:
            return [f"repeat {random.randint(0, 3)}"] + body + ["end"]
        left, right = random.choice([(self.name("record"), self.name("record")), ("1", "1"),
                                     ("1", "2"), (self.name("whole"), "0")])
        rest = ["else"] + self.rows(3, procs, depth + 1) if random.random() < 0.5 else []
        return [f"if {left} is {right}"] + body + rest + ["end"]

    def simple(self):
        random = self.random
        sort = random.choice(["record", "record", "record", "map", "whole"])
        name = self.name(sort)
        record, owner = self.name("record"), self.name("map")
        kind = random.random()
        if kind < 0.25:
            return [self.fresh(name)]
        if kind < 0.35:
            return [f"let {name} = {self.name(sort)}"]
        if kind < 0.5:
            return [f"{record}.{random.randint(0, 1)} = {random.choice([name, record, 'none'])}"]
        if kind < 0.6:
            return [f"{owner} at {record} = {name}"]
        if kind < 0.7:
            return [f"let t = {random.choice([record + '.0', owner + ' at ' + record])}",
                    "if t is none", "say 1", "else", "say t", "end"]
        if kind < 0.85:
            return [f"say {name}"]
        if kind < 0.9:
            return [f"drop {name}", self.fresh(name)]
        return [random.choice([f"hold {record}", f"pin {owner}", "minor", "rings 3", "begin",
                               "slice 2", "compact 3", "settle"])]
