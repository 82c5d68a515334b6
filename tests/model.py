"""A second machine, slow and plain: it follows the words of the document and keeps no counts.

The tests run scripts on it and on the package, and compare events, errors and states.
"""
import re
from itertools import combinations

TAKEN = set(
    "none get at is then record weak map counted traced let drop hold release pin unpin say if "
    "else end repeat proc do minor rings begin slice compact finalize settle".split()
)


class Wrong(Exception):
    """An error of the document: its name and what it keeps."""

    def __init__(self, name, *told):
        super().__init__(name, *told)
        self.name = name
        self.told = told


def name_form(word):
    return re.fullmatch("[A-Za-z][a-z]{0,7}", word) is not None and word not in TAKEN


def local_form(word):
    return name_form(word) and word[0].islower()


def number_form(word, most):
    return re.fullmatch("0|[1-9][0-9]{0,12}", word) is not None and int(word) <= most


def integer_form(word):
    if re.fullmatch("0|-?[1-9][0-9]{0,12}", word) is None:
        return False
    return -10 ** 9 <= int(word) <= 10 ** 9


def value_form(word):
    return word == "none" or integer_form(word) or name_form(word)


def slot_form(word):
    found = re.fullmatch("([A-Za-z]+)[.]([0-5])", word)
    return found is not None and name_form(found[1])


SIGNS = {
    "X": name_form,
    "P": local_form,
    "V": value_form,
    "Y.I": slot_form,
    "N": lambda word: number_form(word, 10000),
    "S": lambda word: number_form(word, 6),
    "HOME": lambda word: word in ("counted", "traced"),
}

PATTERNS = [
    "let X = V", "let X = Y.I", "let X = record HOME S", "let X = record HOME S then P",
    "let X = weak HOME X", "let X = map HOME", "let X = get X", "let X = X at X",
    "Y.I = V", "X at X = V", "drop X", "hold X", "release X", "pin X", "unpin X",
    "say V", "say Y.I", "say get X", "say X at X", "if V is V", "else", "end", "repeat N",
    "minor", "rings N", "begin", "slice N", "compact N", "finalize", "settle",
]


def fits(words, pattern):
    signs = pattern.split(" ")
    if len(signs) != len(words):
        return False
    return all(SIGNS[sign](word) if sign in SIGNS else sign == word
               for sign, word in zip(signs, words))


def has_form(words):
    if words[0] == "proc":
        return 2 <= len(words) <= 6 and all(map(local_form, words[1:])) and \
            len(set(words[2:])) == len(words[2:])
    if words[0] == "do":
        return len(words) >= 2 and local_form(words[1]) and all(map(value_form, words[2:]))
    return any(fits(words, pattern) for pattern in PATTERNS)


def rows_of(text):
    if type(text) is not str:
        raise Wrong("BadRow", 0)
    rows = [tuple(line.split(" ")) for line in text.split("\n")] if text else []
    for at, words in enumerate(rows):
        if not has_form(words):
            raise Wrong("BadRow", at)
    return tuple(rows)


def check(rows, known=()):
    """known: names with their numbers of parameters."""
    counts = dict(known)
    firsts = {}
    for at, words in enumerate(rows):
        if words[0] == "proc" and words[1] not in counts:
            counts[words[1]] = len(words) - 2
            firsts[words[1]] = at
    found = {}

    def note(at, name, rank):
        if at not in found or rank < found[at][0]:
            found[at] = (rank, name)

    stack = []
    for at, words in enumerate(rows):
        word = words[0]
        if word in ("if", "repeat", "proc"):
            if len(stack) >= 8 or (word == "proc" and stack):
                note(at, "BadBlock", 0)
            stack.append(word)
        elif word == "else":
            if not stack or stack[-1] != "if":
                note(at, "BadBlock", 0)
            else:
                stack[-1] = "arm"
        elif word == "end":
            if stack:
                stack.pop()
            else:
                note(at, "BadBlock", 0)
        if word == "proc" and firsts.get(words[1]) != at:
            note(at, "Twice", 1)
        called = None
        if word == "do":
            called, many = words[1], len(words) - 2
        if word == "let" and words[3] == "record" and len(words) == 8:
            called, many = words[7], 1
        if called is not None and called not in counts:
            note(at, "NoProcedure", 2)
        elif called is not None and counts[called] != many:
            note(at, "WrongCount", 3)
    if stack:
        note(len(rows), "BadBlock", 0)
    if found:
        at = min(found)
        raise Wrong(found[at][1], at)


def emptied(pages, moves):
    """By trying all sets of pages."""
    best = None
    free_pages = [page for page in pages if not page[2]]
    for many in range(len(free_pages) + 1):
        for chosen in combinations(free_pages, many):
            load = sum(page[1] for page in chosen)
            room = sum(8 - page[1] for page in pages if page not in chosen)
            if load <= moves and load <= room:
                key = (-many, load, tuple(sorted(page[0] for page in chosen)))
                if best is None or key < best:
                    best = key
    return best[2]


class Thing:
    def __init__(self, home, sort):
        self.home = home
        self.sort = sort
        self.slots = []
        self.entries = {}
        self.target = None
        self.proc = None
        self.was_queued = False
        self.pins = 0
        self.holds = 0
        self.age = 0
        self.proxy = None

    def values(self):
        return self.slots + list(self.entries.values())

    def refs(self):
        return [value[1] for value in self.values() if type(value) is tuple]


class Model:
    def __init__(self, young=None, start=None, pace=None, limit=None):
        self.young, self.start, self.pace, self.limit = young, start, pace, limit
        self.objs = {}
        self.scopes = [{}]
        self.queue = []
        self.cands = []
        self.cycle = None
        self.kept = set()
        self.pages = {}
        self.next_page = 0
        self.next = 0
        self.procs = {}
        self.events = []
        self.settling = 0
        # Where these are lists, they get how many objects are reachable ahead of each statement,
        # and ahead of each creation.
        self.reached = None
        self.made = None

    # State, as the properties of a machine show it.

    def state(self):
        objs = []
        for n in sorted(self.objs):
            o = self.objs[n]
            if o.sort == "record":
                parts = tuple(o.slots)
            elif o.sort == "map":
                parts = tuple(sorted(o.entries.items()))
            else:
                parts = () if o.target is None else (o.target,)
            more = (self.count(n), o.proxy) if o.home == "counted" else (o.age, self.place(n))
            objs.append((n, (o.home, o.sort, parts), more))
        return {
            "objs": objs,
            "variables": tuple(sorted(self.scopes[0].items())),
            "queue": tuple(self.queue),
            "candidates": tuple(self.cands),
            "kept": tuple(sorted(self.kept)) if self.cycle else (),
            "cycle": None if self.cycle is None else tuple(self.cycle),
            "pages": tuple((p, k, tuple(c)) for p, (k, c) in sorted(self.pages.items())),
            "next": self.next,
            "reach": tuple(sorted(self.reach(self.roots()))),
        }

    def place(self, n):
        for page, (_, cells) in self.pages.items():
            if n in cells:
                return (page, cells.index(n))
        return None

    # Sections 3 and 6.

    def roots(self):
        found = set(self.queue)
        for scope in self.scopes:
            found |= {v[1] for v in scope.values() if type(v) is tuple}
        return found | {n for n, o in self.objs.items() if o.pins or o.holds}

    def reach(self, starts):
        found = set(starts)
        while True:
            more = set()
            for n in found:
                o = self.objs[n]
                more |= {v[1] for v in o.slots if type(v) is tuple}
                more |= {v[1] for k, v in o.entries.items() if k in found and type(v) is tuple}
            if more <= found:
                return found
            found |= more

    def leads(self, starts):
        """What the starts lead to, in one or more steps, whatever the keys."""
        found = set()
        ahead = list(starts)
        while ahead:
            for r in self.objs[ahead.pop()].refs():
                if r not in found:
                    found.add(r)
                    ahead.append(r)
        return found

    def counts(self):
        found = {n: o.pins + o.holds + (o.proxy is not None) + (n in self.queue)
                 for n, o in self.objs.items() if o.home == "counted"}
        held = [v[1] for scope in self.scopes for v in scope.values() if type(v) is tuple]
        for o in self.objs.values():
            if o.home == "counted":
                held += o.refs()
        for n in held:
            if n in found:
                found[n] += 1
        return found

    def count(self, n):
        return self.counts()[n]

    def step(self, action, falls=True):
        before = self.counts()
        action()
        after = self.counts()
        for n in sorted(after):
            if n in before and 0 < after[n] < before[n] and n not in self.cands:
                self.cands.append(n)
        if falls:
            self.falls()

    def falls(self):
        falling = []
        while True:
            for n, many in sorted(self.counts().items()):
                if many == 0 and n not in falling:
                    falling.append(n)
            if not falling:
                return
            first = falling.pop(0)
            self.step(lambda: self.fall(first), False)

    def fall(self, n):
        for w in sorted(self.objs):
            if self.objs[w].target == n:
                self.clear(w)
        for m in sorted(self.objs):
            if n in self.objs[m].entries:
                self.unkey(m, n)
        if self.closes(n):
            self.enqueue(n)
        else:
            self.free(n)

    def closes(self, n):
        return self.objs[n].proc is not None and not self.objs[n].was_queued

    def clear(self, w):
        self.objs[w].target = None
        self.events.append(("clear", w))

    def unkey(self, m, k):
        del self.objs[m].entries[k]
        self.events.append(("unkey", m, k))

    def free(self, n):
        del self.objs[n]
        self.kept.discard(n)
        if n in self.cands:
            self.cands.remove(n)
        for _, cells in self.pages.values():
            if n in cells:
                cells[cells.index(n)] = None
        self.events.append(("free", n))

    def enqueue(self, n):
        self.objs[n].was_queued = True
        self.queue.append(n)
        self.events.append(("queue", n))
        self.keep(n)

    def keep(self, n):
        if self.cycle is None or n >= self.cycle[0] or n in self.kept:
            return
        starts = self.kept | {o for o in self.objs if o >= self.cycle[0]} | set(self.queue) | {n}
        self.kept = {o for o in self.reach(starts) if o < self.cycle[0]}

    def put_proxy(self, holder, value):
        if type(value) is tuple and self.objs[holder].home == "traced":
            o = self.objs[value[1]]
            if o.home == "counted" and o.proxy is None:
                o.proxy = 0

    # Sections 7 to 10.

    def bury(self, dead, below):
        for w in sorted(self.objs):
            if self.objs[w].target in dead:
                self.clear(w)
        for m in sorted(self.objs):
            for k in sorted(self.objs[m].entries):
                if k in dead:
                    self.step(lambda: self.unkey(m, k), False)
        stay = self.queue_rings(dead)
        self.step(lambda: [self.free(n) for n in sorted(dead - stay)], False)
        for n in self.idle_proxies(below):
            self.step(lambda: self.unproxy(n), False)
        self.falls()

    def queue_rings(self, dead):
        closing = sorted(n for n in dead if self.closes(n))
        uses = {n: self.leads([n]) for n in closing}
        rings = []
        for n in closing:
            ring = [o for o in closing if o == n or (o in uses[n] and n in uses[o])]
            if ring not in rings:
                rings.append(ring)
        queued = []
        for ring in sorted(rings):
            if not any(n in uses[o] for n in ring for o in closing if o not in ring):
                queued += ring
        for n in queued:
            self.enqueue(n)
        return self.leads(queued) | set(queued)

    def idle_proxies(self, below):
        used = {r for o in self.objs.values() if o.home == "traced" for r in o.refs()}
        return [n for n, o in sorted(self.objs.items())
                if o.proxy is not None and o.proxy < below and n not in used]

    def unproxy(self, n):
        self.objs[n].proxy = None
        self.events.append(("unproxy", n))

    def is_young(self, n):
        return self.objs[n].home == "traced" and self.objs[n].age < 2

    def minor(self, years=1):
        self.events.append(("minor",))
        safe = self.reach(self.roots() | {n for n in self.objs if not self.is_young(n)})
        self.bury({n for n in self.objs if n not in safe}, 2)
        grown = []
        for n, o in sorted(self.objs.items()):
            if o.home == "traced" and o.age < 2:
                o.age = min(2, o.age + years)
                if o.age == 2:
                    grown.append(n)
            if o.proxy is not None and o.proxy < 2:
                o.proxy = min(2, o.proxy + years)
        self.events += [("old", n) for n in grown]
        for n, o in sorted(self.objs.items()):
            if o.home == "traced" and o.age == 2 and not o.pins:
                if self.pages[self.place(n)[0]][0] == "young":
                    self.move(n, ())
        self.back()

    def move(self, n, barred):
        page, cell = self.place(n)
        room = self.room("old", barred)
        self.pages[page][1][cell] = None
        self.pages[room[0]][1][room[1]] = n
        self.events.append(("move", n) + room)

    def room(self, kind, barred):
        rooms = [(page, cell) for page, (sort, cells) in self.pages.items()
                 if sort == kind and page not in barred
                 for cell in range(8) if cells[cell] is None]
        if rooms:
            return min(rooms)
        page = self.next_page
        self.next_page += 1
        self.pages[page] = (kind, [None] * 8)
        self.events.append(("page", page, kind))
        return (page, 0)

    def back(self):
        for page in sorted(self.pages):
            if self.pages[page][1] == [None] * 8:
                del self.pages[page]
                self.events.append(("back", page))

    def rings(self, many):
        self.events.append(("rings",))
        starts = self.cands[:many]
        self.cands = self.cands[many:]
        group = set(starts)
        while True:
            more = {r for n in group for r in self.objs[n].refs()
                    if self.objs[r].home == "counted"}
            if more <= group:
                break
            group |= more
        inner = [r for n in group for r in self.objs[n].refs()]
        counts = self.counts()
        alive = {n for n in group if counts[n] > inner.count(n)}
        while True:
            more = {r for n in alive for r in self.objs[n].refs() if r in group}
            if more <= alive:
                break
            alive |= more
        self.bury(group - alive, 0)

    def begin(self):
        if self.cycle is None:
            self.minor(2)
            self.cycle = [self.next, 0]
            self.kept = self.reach(self.roots())
            self.events.append(("begin",))

    def slice(self, many):
        if self.cycle is not None:
            self.cycle[1] += many
            if self.cycle[1] >= len(self.kept):
                self.finish()

    def finish(self):
        if self.cycle is None:
            return
        first = self.cycle[0]
        self.cycle = None
        self.events.append(("finish",))
        dead = {n for n in self.objs if n < first and n not in self.kept}
        self.kept = set()
        self.bury(dead, 3)
        self.back()

    def compact(self, moves):
        old = sorted(page for page in self.pages if self.pages[page][0] == "old")
        listed = []
        for page in old:
            there = [n for n in self.pages[page][1] if n is not None]
            listed.append((page, len(there), any(self.objs[n].pins for n in there)))
        chosen = emptied(tuple(listed), moves)
        for page in chosen:
            for n in [n for n in self.pages[page][1] if n is not None]:
                self.move(n, chosen)
        self.back()

    # Section 11.

    def finalize(self, run):
        if not self.queue:
            return
        if run.depth >= 24:
            raise Wrong("Fault", "deep", run.row)
        n = self.queue[0]
        self.events.append(("close", n))
        names, _, _ = self.procs[self.objs[n].proc]
        scope = {}

        def take():
            self.queue.pop(0)
            self.scopes.append(scope)
            scope[names[0]] = ("#", n)

        self.step(take)
        run.call(self.objs[n].proc)

    def settle(self, run):
        self.settling += 1
        try:
            for _ in range(50):
                begun = len(self.events)
                while self.queue:
                    self.finalize(run)
                self.finish()
                self.begin()
                self.finish()
                told = {event[0] for event in self.events[begun:]}
                if not told & {"free", "clear", "queue", "close", "unkey", "unproxy"}:
                    return
        finally:
            self.settling -= 1

    def policy(self, run, home):
        if self.settling:
            return
        if home == "traced" and self.young is not None:
            if len([n for n in self.objs if self.is_young(n)]) >= self.young:
                self.minor()
        if self.start is not None and self.cycle is None and len(self.objs) >= self.start:
            self.begin()
        if self.pace is not None:
            self.slice(self.pace)
        if self.limit is not None and len(self.objs) >= self.limit:
            self.settle(run)
            if len(self.objs) >= self.limit:
                raise Wrong("Fault", "full", run.row)

    # Section 5.

    def run(self, text):
        """Returns (events, None or the Wrong that ends it)."""
        self.events = []
        try:
            rows = rows_of(text)
            check(rows, [(name, len(proc[0])) for name, proc in self.procs.items()])
        except Wrong as wrong:
            return ((), wrong)
        for at, words in enumerate(rows):
            if words[0] == "proc":
                self.procs[words[1]] = (words[2:], rows, at + 1)
        try:
            Run(self, rows).block(rows, 0)
        except Wrong as wrong:
            self.settling = 0
            return (tuple(self.events), wrong)
        return (tuple(self.events), None)


class Run:
    """One run of a script, by recursion over blocks and calls."""

    def __init__(self, model, rows):
        self.model = model
        self.depth = 0
        self.done = 0
        self.row = 0

    def fault(self, word):
        raise Wrong("Fault", word, self.row)

    def note(self, found):
        """Notes how many objects are reachable, if this is asked for."""
        if found is not None:
            found.append(len(self.model.reach(self.model.roots())))

    def scope(self, name):
        return self.model.scopes[0] if name[0].isupper() else self.model.scopes[-1]

    def call(self, name):
        """The scope of the call is there already."""
        model = self.model
        row = self.row
        self.depth += 1
        try:
            self.block(model.procs[name][1], model.procs[name][2])
        finally:
            scope = model.scopes[-1]
            for word in list(scope):
                model.step(lambda: scope.pop(word))
            model.scopes.pop()
            self.depth -= 1
        self.row = row

    def block(self, rows, at):
        """Does the rows from at to the else or end of their block; returns where that is."""
        while at < len(rows) and rows[at][0] not in ("else", "end"):
            at = self.statement(rows, at) + 1
        return at

    def beyond(self, rows, at):
        """Where the block that is open at a row has its else or end."""
        open_blocks = 0
        while open_blocks or rows[at][0] not in ("else", "end"):
            if rows[at][0] in ("if", "repeat", "proc"):
                open_blocks += 1
            elif rows[at][0] == "end":
                open_blocks -= 1
            at += 1
        return at

    def statement(self, rows, at):
        """Does one statement; returns its last row."""
        words = rows[at]
        self.row = at
        if words[0] == "proc":
            return self.beyond(rows, at + 1)
        if words[0] != "drop":
            if self.done == 10000:
                self.fault("long")
            self.done += 1
            self.note(self.model.reached)
        if words[0] == "if":
            return self.choice(rows, at)
        if words[0] == "repeat":
            last = self.beyond(rows, at + 1)
            for _ in range(int(words[1]) if last > at + 1 else 0):
                self.block(rows, at + 1)
            return last
        self.simple(words)
        return at

    def choice(self, rows, at):
        left, right = self.value(rows[at][1]), self.value(rows[at][3])
        middle = self.beyond(rows, at + 1)
        last = self.beyond(rows, middle + 1) if rows[middle][0] == "else" else middle
        if left == right:
            self.block(rows, at + 1)
        elif middle != last:
            self.block(rows, middle + 1)
        return last

    def value(self, word):
        if word == "none":
            return None
        if integer_form(word):
            return int(word)
        if word not in self.scope(word):
            self.fault("unset")
        return self.scope(word)[word]

    def things(self, *values):
        for value in values:
            if type(value) is not tuple:
                self.fault("object")
        return [value[1] for value in values]

    def of_sort(self, number, sort):
        if self.model.objs[number].sort != sort:
            self.fault("sort")
        return self.model.objs[number]

    def slot(self, word):
        name, index = word.split(".")
        number, = self.things(self.value(name))
        thing = self.of_sort(number, "record")
        if int(index) >= len(thing.slots):
            self.fault("slot")
        return thing, int(index)

    def asked(self, words):
        """The value that words such as `get y` give."""
        if len(words) == 3:
            owner, key = self.things(self.value(words[0]), self.value(words[2]))
            return self.of_sort(owner, "map").entries.get(key)
        if len(words) == 2:
            weak, = self.things(self.value(words[1]))
            target = self.of_sort(weak, "weak").target
            if target is None:
                return None
            self.model.keep(target)
            return ("#", target)
        if "." in words[0]:
            thing, index = self.slot(words[0])
            return thing.slots[index]
        return self.value(words[0])

    def simple(self, words):
        model = self.model
        word = words[0]
        if word == "let":
            self.let(words)
        elif word == "say":
            value = self.asked(words[1:])
            text = "none" if value is None else str(value)
            model.events.append(("say", f"#{value[1]}" if type(value) is tuple else text))
        elif word == "drop":
            self.value(words[1])
            model.step(lambda: self.scope(words[1]).pop(words[1]))
        elif word in ("hold", "release", "pin", "unpin"):
            self.grip(words)
        elif word == "do":
            self.do(words)
        elif word in ("minor", "begin"):
            getattr(model, word)()
        elif word in ("rings", "slice", "compact"):
            getattr(model, word)(int(words[1]))
        elif word in ("finalize", "settle"):
            getattr(model, word)(self)
        elif words[1] == "=":
            self.store(words)
        else:
            self.enter(words)

    def let(self, words):
        rest = words[3:]
        if rest[0] not in ("record", "weak", "map"):
            value = self.asked(rest)
            self.model.step(lambda: self.scope(words[1]).update({words[1]: value}))
            return
        if rest[0] == "weak":
            self.things(self.value(rest[2]))
        self.note(self.model.made)
        self.model.policy(self, rest[1])
        target = self.things(self.value(rest[2]))[0] if rest[0] == "weak" else None
        self.create(words[1], rest, target)

    def create(self, name, rest, target):
        model = self.model
        thing = Thing(rest[1], rest[0])
        number = model.next
        model.next += 1
        thing.target = target
        if rest[0] == "record":
            thing.slots = [None] * int(rest[2])
            thing.proc = rest[4] if len(rest) == 5 else None
        if rest[1] == "traced":
            page, cell = model.room("young", ())
            model.pages[page][1][cell] = number

        def assign():
            model.objs[number] = thing
            self.scope(name)[name] = ("#", number)

        model.step(assign)

    def grip(self, words):
        number, = self.things(self.value(words[1]))
        thing = self.model.objs[number]
        part = "holds" if words[0] in ("hold", "release") else "pins"
        if words[0] in ("hold", "pin"):
            setattr(thing, part, getattr(thing, part) + 1)
            return
        if getattr(thing, part) == 0:
            self.fault("held")
        self.model.step(lambda: setattr(thing, part, getattr(thing, part) - 1))

    def do(self, words):
        if self.depth >= 24:
            self.fault("deep")
        values = [self.value(word) for word in words[2:]]
        names = self.model.procs[words[1]][0]
        self.model.scopes.append(dict(zip(names, values)))
        self.call(words[1])

    def store(self, words):
        name = words[0].split(".")[0]
        self.value(name)
        value = self.value(words[2])
        thing, index = self.slot(words[0])
        number = self.value(name)[1]

        def put():
            self.model.put_proxy(number, value)
            thing.slots[index] = value

        self.model.step(put)

    def enter(self, words):
        values = [self.value(words[0]), self.value(words[2]), self.value(words[4])]
        owner, key = self.things(values[0], values[1])
        thing = self.of_sort(owner, "map")

        def put():
            if values[2] is None:
                thing.entries.pop(key, None)
            else:
                self.model.put_proxy(owner, values[2])
                thing.entries[key] = values[2]

        self.model.step(put)
