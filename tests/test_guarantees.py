"""Section 20: the guarantees (a) to (g), (h) for copies, (j), over longer scripts.

Those of resumed machines, of lean scripts and of cuts stand with the tests of these.
"""
import random
import unittest

from crossheaps.machine import Machine
from crossheaps.pages import emptied
from tests import model
from tests.compare import Pair, shown
from tests.helpers import ended, lines
from tests.makers import CLOSING, PROCEDURES, RowMaker, begun, policy_of
from tests.test_random import row_of

COLLECTIONS = ("minor", "rings", "begin", "slice", "compact")


def seen_by(pair, text):
    """The events of a row on a pair; the model then has the same state."""
    given, wanted = pair.run(text)
    assert given == wanted, text
    return given[0]


def history(seed, rows, closing=(), weights=None, policy=None):
    """Yields (pair, row) ahead of each row of a random history."""
    source = random.Random(seed)
    pair = Pair(**(policy or {}))
    seen_by(pair, begun())
    maker = RowMaker(source, list(closing), weights)
    for _ in range(rows):
        yield pair, row_of(maker, pair.machine)


def named_objects(slow, event):
    """The object that an event frees, clears as a target or removes as a key."""
    if event[0] == "free":
        return event[1]
    if event[0] == "clear":
        return slow.get(event[1])
    return event[2] if event[0] == "unkey" else None


class TestSafe(unittest.TestCase):
    def test_collections(self):
        seen = 0
        for seed in range(60):
            for pair, row in history(seed, 90, CLOSING if seed % 2 else ()):
                targets = {n: o.target for n, o in pair.model.objs.items()}
                reach = set(pair.machine.reach())
                events = seen_by(pair, row)
                if row.split(" ")[0] in COLLECTIONS:
                    named = {named_objects(targets, event) for event in events}
                    self.assertEqual(named & reach, set(), (seed, row))
                    self.assertLessEqual(reach, set(pair.machine.present))
                    seen += len(events)
        self.assertGreater(seen, 1000)

    def test_falls(self):
        seen = 0
        for seed in range(60):
            for pair, row in history(seed, 90, CLOSING if seed % 2 else (),
                                     {"settle": 0, "finalize": 0, "drop": 10}):
                targets = {n: o.target for n, o in pair.model.objs.items()}
                events = seen_by(pair, row)
                queued = {event[1] for event in events if event[0] == "queue"}
                roots = {n for n in pair.model.roots() if n not in queued}
                roots |= {v[1] for _, v in pair.machine.variables if isinstance(v, tuple)}
                reach = pair.model.reach(roots)
                named = {named_objects(targets, event) for event in events} - {None}
                self.assertEqual(named & reach, set(), (seed, row))
                seen += len(named)
        self.assertGreater(seen, 500)

    def test_reachable_objects_are_present(self):
        for seed in range(30):
            policy = policy_of(random.Random(seed))
            policy["limit"] = None
            for pair, row in history(seed, 60, CLOSING, None, policy):
                seen_by(pair, row)
                self.assertLessEqual(set(pair.machine.reach()), set(pair.machine.present))


class TestWhole(unittest.TestCase):
    def dead_of(self, slow, gone, answer):
        """What is still to die when the object comes back."""
        first = slow.cycle[0]
        kept = {n for n in slow.objs if n < first and n not in gone}
        later = {n for n in slow.objs if n >= first}
        return gone - slow.reach(kept | later | set(slow.queue) | {answer})

    def test_just_what_was_unreachable_behind_begin(self):
        finishes = 0
        for seed in range(150):
            gone = None
            for pair, row in history(seed, 90, (), {"settle": 0, "begin": 5, "say": 4}):
                slow = pair.model
                words = row.split(" ")
                if "get" in words and gone is not None:
                    value = dict(pair.machine.variables).get(words[-1])
                    target = slow.objs[value[1]].target
                    if target in gone:
                        gone = self.dead_of(slow, gone, target)
                running = pair.machine.cycle
                ahead = set(pair.machine.present)
                reach = set(pair.machine.reach())
                events = seen_by(pair, row)
                freed = {event[1] for event in events if event[0] == "free"}
                if ("finish",) in events:
                    finishes += 1
                    self.assertLessEqual(gone, freed)
                    for number in freed - gone:
                        self.assertIn(number, ahead - reach)
                    gone = None
                elif running is None and pair.machine.cycle is not None:
                    gone = set(pair.machine.present) - set(pair.machine.reach())
                elif gone is not None:
                    gone -= freed
                    below = {n for n in pair.machine.present if n < running[0]}
                    self.assertEqual(set(pair.machine.kept), below - gone)
        self.assertGreater(finishes, 60)

    def test_nothing_younger_dies(self):
        machine = Machine()
        machine.told("begin")
        machine.told(lines("repeat 20", "let t = record traced 1", "t.0 = t", "let c = map counted",
                           "c at t = c", "end", "drop t", "drop c"))
        before = machine.present
        self.assertEqual(machine.told("slice 1"), (("finish",),))
        self.assertEqual(machine.present, before)


class TestSettled(unittest.TestCase):
    def test_just_the_reachable_objects_are_present(self):
        ended_by_itself = 0
        for seed in range(120):
            pair = None
            for pair, row in history(seed, 50, CLOSING if seed % 3 else (), {"settle": 0}):
                seen_by(pair, row)
            machine = pair.machine
            machine.told("let Hat = none\nlet Ink = none\nlet Jar = none")
            events = machine.told("settle")
            if len([event for event in events if event == ("begin",)]) < 50:
                ended_by_itself += 1
                self.assertEqual(machine.present, machine.reach(), seed)
                self.assertEqual(machine.queue, ())
                self.assertEqual(machine.told("settle"), (
                    ("minor",), ("begin",), ("finish",)))
        self.assertGreater(ended_by_itself, 80)


def said(events):
    return [event for event in events if event[0] == "say"]


class TestPolicies(unittest.TestCase):
    POLICIES = [
        {}, {"young": 1}, {"young": 3, "start": 2, "pace": 1}, {"start": 1, "pace": 1},
        {"start": 5, "pace": 10000}, {"young": 2, "limit": 60}, {"limit": 45, "pace": 2},
        {"young": 4, "start": 7, "pace": 3, "limit": 50},
    ]

    def script(self, seed):
        """A script without weak objects and closing procedures, from a history."""
        source = random.Random(seed)
        machine = Machine()
        maker = RowMaker(source, [], {"create": 14})
        rows = []
        for _ in range(100):
            row = row_of(maker, machine)
            if "weak" in row or "get" in row or ended(machine, row)[1] is not None:
                continue
            rows.append(row)
            for name, _ in machine.variables:
                if source.random() < 0.1:
                    rows.append(f"say {name}")
        return "\n".join(rows)

    def test_say_the_same(self):
        whole = 0
        for seed in range(60):
            text = self.script(seed)
            wanted = said(Machine().told(text))
            for policy in self.POLICIES:
                events, name, values = ended(Machine(**policy), text)
                if name is None:
                    whole += 1
                    self.assertEqual(said(events), wanted, (seed, policy))
                else:
                    self.assertEqual((name, values[0]), ("Fault", "full"))
                    self.assertEqual(said(events), wanted[:len(said(events))])
        self.assertGreater(whole, 300)


class TestClosing(unittest.TestCase):
    def test_at_most_once(self):
        closed = 0
        for seed in range(60):
            told = []
            policy = {} if seed % 2 else {"young": 3, "start": 5, "pace": 2}
            for pair, row in history(seed, 90, CLOSING, {"settle": 1, "drop": 20}, policy):
                told += seen_by(pair, row)
            for word in ("queue", "close", "free"):
                numbers = [event[1] for event in told if event[0] == word]
                self.assertEqual(len(numbers), len(set(numbers)))
            closed += len([event for event in told if event[0] == "close"])
        self.assertGreater(closed, 120)

    def test_no_other_closing_object_uses_a_buried_one(self):
        queued = 0
        weights = {"enter": 0, "settle": 0, "create": 14, "drop": 12}
        for seed in range(120):
            for pair, row in history(seed, 80, ["bye"], weights):
                slow = pair.model
                events = seen_by(pair, row)
                if row.split(" ")[0] not in ("minor", "rings", "slice", "begin"):
                    continue
                now = [event[1] for event in events if event[0] == "queue"]
                queued += len(now)
                for number in now:
                    for other, thing in slow.objs.items():
                        waits = thing.proc is not None and not thing.was_queued
                        if waits and other not in pair.machine.reach():
                            self.assertNotIn(number, slow.leads([other]))
                    users = [other for other in now if number in slow.leads([other])]
                    mutual = slow.leads([number])
                    self.assertLessEqual(set(users) - {number}, mutual)
        self.assertGreater(queued, 40)


class TestFreedAtOnce(unittest.TestCase):
    def test_no_count_is_none(self):
        for seed in range(60):
            for pair, row in history(seed, 90, CLOSING):
                seen_by(pair, row)
                machine = pair.machine
                for number in machine.present:
                    if machine[number][0] == "counted":
                        self.assertGreater(machine.count_of(number), 0)

    def test_by_the_very_step(self):
        text = lines("let a = record counted 1", "let b = record counted 1", "a.0 = b", "drop b",
                     "say 1", "a.0 = none", "say 2", "proc p x", "say 3", "drop x", "say 4", "end",
                     "let c = a", "drop a", "say 5", "let d = record counted 0", "let e = d",
                     "drop d", "let e = 1", "say 6", "do p c", "drop c", "say 7",
                     "let q = record counted 0", "hold q", "drop q", "say 8")
        events = Machine().told(text)
        self.assertEqual(events, (
            ("say", "1"), ("free", 1), ("say", "2"), ("say", "5"), ("free", 2), ("say", "6"),
            ("say", "3"), ("say", "4"), ("free", 0), ("say", "7"), ("say", "8")))


class TestRingsFree(unittest.TestCase):
    def test_unreachable_objects_alone(self):
        freed = 0
        for seed in range(60):
            for pair, row in history(seed, 90, ["bye"], {"rings": 9, "drop": 18}):
                reach = set(pair.machine.reach())
                events = seen_by(pair, row)
                if row.startswith("rings"):
                    gone = {event[1] for event in events if event[0] == "free"}
                    self.assertEqual(gone & reach, set())
                    freed += len(gone)
        self.assertGreater(freed, 50)

    def test_no_unreachable_counted_object_is_left(self):
        freed = 0
        names = "abcdef"
        for seed in range(200):
            source = random.Random(seed)
            machine = Machine()
            machine.told(lines(*[f"let {name} = record counted 3" for name in names]))
            for _ in range(120):
                one, two, three = (source.choice(names) for _ in range(3))
                row = source.choice([
                    f"{one}.{source.randrange(3)} = {two}", f"{one}.{source.randrange(3)} = none",
                    f"let {one} = record counted 3", f"let {one} = {two}",
                    f"let {one} = weak counted {two}\nlet {one} = {three}",
                    f"let T = record traced 1\n{one}.{source.randrange(3)} = T"])
                ended(machine, row)
            events = machine.told("rings 10000")
            freed += len([event for event in events if event[0] == "free"])
            left = [n for n in machine.present if machine[n][0] == "counted"]
            self.assertLessEqual(set(left), set(machine.reach()), seed)
        self.assertGreater(freed, 200)


class TestCopies(unittest.TestCase):
    def test_go_on_as_the_machine(self):
        for seed in range(60):
            source = random.Random(seed)
            policy = policy_of(source) if seed % 2 else {}
            machine = Machine(**policy)
            machine.told(begun())
            maker = RowMaker(source, CLOSING + ["calm"])
            copies = []
            for at in range(80):
                if at % 20 == 10:
                    copies.append(machine.copy())
                row = row_of(maker, machine)
                found = ended(machine, row)
                for other in copies:
                    self.assertEqual(ended(other, row), found)
                    self.assertEqual(shown(other), shown(machine))

    def test_leave_the_machine_as_it_is(self):
        for seed in range(40):
            source = random.Random(seed)
            machine = Machine(**policy_of(source))
            machine.told(begun())
            maker = RowMaker(source, CLOSING)
            for _ in range(30):
                ended(machine, row_of(maker, machine))
            before = shown(machine)
            other = machine.copy()
            for _ in range(30):
                ended(other, row_of(maker, other))
            self.assertEqual(shown(machine), before)

    def test_know_the_procedures(self):
        machine = Machine()
        machine.told(PROCEDURES)
        self.assertEqual(machine.copy().told("do bye 3"), (("say", "3"),))


class TestExact(unittest.TestCase):
    def test_emptied(self):
        source = random.Random(20)
        for _ in range(400):
            pages = tuple((page, source.randint(1, 8), source.random() < 0.3)
                          for page in range(source.randint(0, 9)))
            moves = source.randint(0, 25)
            self.assertEqual(emptied(pages, moves), model.emptied(pages, moves))

    def test_compact(self):
        moved = 0
        for seed in range(80):
            source = random.Random(seed)
            machine = Machine()
            many = source.randint(9, 60)
            names = [one + two for one in "abcdefgh" for two in "klmnpqrs"][:many]
            machine.told(lines(*[f"let {name} = record traced 0" for name in names]))
            machine.told("minor\nminor")
            for name in names:
                if source.random() < 0.04:
                    machine.told(f"pin {name}")
                if source.random() < 0.75:
                    machine.told(f"drop {name}")
            machine.told("begin\nslice 10000")
            moved += self.check_compact(machine, source.randint(0, 12))
        self.assertGreater(moved, 60)

    def check_compact(self, machine, moves):
        pairs = [(page, [n for n in cells if n is not None]) for page, _, cells in machine.pages]
        pinned = {n for n in machine.present if self.is_pinned(machine, n)}
        chosen = model.emptied(tuple((page, len(there), bool(pinned & set(there)))
                                     for page, there in pairs), moves)
        wanted = [n for page, there in pairs if page in chosen for n in there]
        places = {n: machine.place_of(n) for n in machine.present}
        events = machine.told(f"compact {moves}")
        went = [event[1] for event in events if event[0] == "move"]
        self.assertEqual(went, wanted)
        self.assertLessEqual(len(went), moves)
        self.assertEqual([event[1] for event in events if event[0] == "back"], list(chosen))
        for number in machine.present:
            if number not in went:
                self.assertEqual(machine.place_of(number), places[number])
        taken = [machine.place_of(number) for number in machine.present]
        self.assertEqual(len(taken), len(set(taken)))
        return len(went)

    def is_pinned(self, machine, number):
        """Whether the object is there behind a cycle that no variable keeps it from."""
        other = machine.copy()
        other.told(lines(*[f"drop {name}" for name, _ in other.variables], "settle"))
        return number in other


if __name__ == "__main__":
    unittest.main()
