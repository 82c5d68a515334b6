"""Section 7: burying, by minors, rings and finishes."""
import unittest

from crossheaps.machine import Machine
from tests.helpers import lines

BYE = ("proc bye x", "say x", "end")


def behind(first, *rows):
    """The events of rows behind a first script, and the machine."""
    machine = Machine()
    machine.told(lines(*BYE, *first))
    return machine.told(lines(*rows)), machine


class TestOrder(unittest.TestCase):
    def test_all_parts_of_a_minor(self):
        # Dead: t (0), m (1), w (2); c (4) and d (5) are counted, k (6) is a live map.
        events, machine = behind((
            "let t = record traced 2", "let m = map traced", "let w = weak traced t",
            "let v = weak counted t", "let c = record counted 0", "let d = record counted 0",
            "let k = map counted", "let e = record counted 0", "t.0 = c", "k at t = d",
            "m at t = e", "k at m = 7", "drop c", "drop d", "drop e", "drop t", "drop m", "drop w"),
            "minor")
        self.assertEqual(events, (
            ("minor",), ("clear", 2), ("clear", 3), ("unkey", 1, 0), ("unkey", 6, 0),
            ("unkey", 6, 1), ("free", 0), ("free", 1), ("free", 2), ("unproxy", 4),
            ("unproxy", 7), ("free", 4), ("free", 5), ("free", 7), ("back", 0)))
        self.assertEqual(machine.present, (3, 6))

    def test_falls_wait_and_candidates_do_not(self):
        # The entry of key 1 lets b (3) go to count 0; a (2) is a candidate by the entry of 0.
        events, machine = behind((
            "let s = record traced 0", "let t = record traced 0", "let a = record counted 1",
            "let b = record counted 1", "let m = map counted", "m at s = a", "m at t = b",
            "b.0 = a", "drop b", "drop s", "drop t"), "minor")
        self.assertEqual(events, (
            ("minor",), ("unkey", 4, 0), ("unkey", 4, 1), ("free", 0), ("free", 1), ("free", 3),
            ("back", 0)))
        self.assertEqual(machine.candidates, (2,))

    def test_weak_objects_ascending(self):
        events, _ = behind((
            "let a = record traced 0", "let b = record traced 0", "let w = weak counted b",
            "let v = weak counted a", "let u = weak traced b", "drop a", "drop b"), "minor")
        self.assertEqual(events[1:4], (("clear", 2), ("clear", 3), ("clear", 4)))

    def test_entries_by_map_then_key(self):
        events, _ = behind((
            "let m = map traced", "let n = map counted", "let a = record traced 0",
            "let b = record traced 0", "n at b = 1", "n at a = 1", "m at b = 1", "m at a = 1",
            "drop m", "drop a", "drop b"), "minor")
        self.assertEqual(events[1:5], (("unkey", 0, 2), ("unkey", 0, 3), ("unkey", 1, 2),
                                       ("unkey", 1, 3)))

    def test_candidates_by_entries_are_in_the_order_of_the_steps(self):
        events, machine = behind((
            "let a = record counted 0", "let b = record counted 0", "let s = record traced 0",
            "let t = record traced 0", "let m = map counted", "m at s = b", "m at t = a",
            "drop s", "drop t"), "minor")
        self.assertEqual(machine.candidates, (1, 0))

    def test_frees_together_are_one_step(self):
        events, machine = behind((
            "let a = record counted 0", "let b = record counted 0", "let s = record counted 2",
            "let t = record counted 2", "s.0 = t", "t.0 = s", "s.1 = b", "t.1 = a", "drop s",
            "drop t", "rings 0"), "rings 9")
        self.assertEqual(events, (("rings",), ("free", 2), ("free", 3)))
        self.assertEqual(machine.candidates, (0, 1))

    def test_proxies_are_steps(self):
        events, machine = behind((
            "let a = record counted 0", "let b = record counted 0", "let t = record traced 2",
            "t.0 = b", "t.1 = a", "t.0 = none", "t.1 = none", "drop b"), "minor")
        self.assertEqual(events, (("minor",), ("unproxy", 0), ("unproxy", 1), ("free", 1)))
        self.assertEqual(machine.candidates, (0,))

    def test_falls_ascending_at_the_end(self):
        events, _ = behind((
            "let a = record counted 1", "let b = record counted 0", "let c = record counted 0",
            "let t = record traced 3", "a.0 = c", "t.0 = c", "t.1 = b", "t.2 = a", "drop a",
            "drop b", "drop c", "drop t"), "minor")
        self.assertEqual(events, (
            ("minor",), ("free", 3), ("unproxy", 0), ("unproxy", 1), ("unproxy", 2), ("free", 0),
            ("free", 1), ("free", 2), ("back", 0)))


def closing_chain(home, links, many):
    """Rows for records 0.. with closing procedures and these links (from, slot, to)."""
    names = "abcdefghijklm"[:many]
    rows = [f"let {name} = record {home} 3 then bye" for name in names]
    rows += [f"{names[one]}.{slot} = {names[two]}" for one, slot, two in links]
    return rows + [f"drop {name}" for name in names]


class TestRings(unittest.TestCase):
    def queued(self, links, many):
        events, _ = behind(closing_chain("traced", links, many), "minor")
        return [event[1] for event in events if event[0] == "queue"]

    def test_each_alone(self):
        self.assertEqual(self.queued([], 3), [0, 1, 2])
        self.assertEqual(self.queued([(0, 0, 0), (1, 0, 1)], 2), [0, 1])

    def test_chain(self):
        self.assertEqual(self.queued([(0, 0, 1), (1, 0, 2)], 3), [0])
        self.assertEqual(self.queued([(2, 0, 1), (1, 0, 0)], 3), [2])

    def test_ring(self):
        self.assertEqual(self.queued([(0, 0, 2), (2, 0, 1), (1, 0, 0)], 3), [0, 1, 2])
        self.assertEqual(self.queued([(2, 0, 1), (1, 0, 2), (1, 1, 0)], 3), [1, 2])

    def test_ring_with_the_least_number_first(self):
        links = [(0, 0, 4), (4, 0, 0), (3, 0, 1), (1, 0, 3)]
        self.assertEqual(self.queued(links, 5), [0, 4, 1, 3, 2])
        self.assertEqual(self.queued(links + [(2, 0, 0)], 5), [1, 3, 2])
        self.assertEqual(self.queued(links + [(4, 1, 2), (3, 1, 2)], 5), [0, 4, 1, 3])

    def test_a_used_ring_waits(self):
        links = [(0, 0, 1), (1, 0, 0), (2, 0, 3), (3, 0, 2), (3, 1, 1)]
        self.assertEqual(self.queued(links, 4), [2, 3])

    def test_through_other_objects(self):
        rows = ("let a = record traced 1 then bye", "let p = record traced 1", "let q = map traced",
                "let b = record traced 0 then bye", "a.0 = p", "p.0 = q", "q at q = b", "drop a",
                "drop p", "drop q", "drop b")
        # The entry with the dead key q is removed first, so that a does not lead to b.
        events, machine = behind(rows, "minor")
        self.assertEqual(events[:4], (("minor",), ("unkey", 2, 2), ("queue", 0), ("queue", 3)))
        self.assertEqual(machine.present, (0, 1, 2, 3))

    def test_entries_that_are_left_lead_whatever_their_keys(self):
        rows = ("let k = record traced 0", "let a = record traced 1 then bye", "let q = map traced",
                "let b = record traced 1 then bye", "b.0 = q", "q at k = a", "drop a", "drop q",
                "drop b")
        events, machine = behind(rows, "minor")
        self.assertEqual(events, (("minor",), ("queue", 3)))
        self.assertEqual(machine.present, (0, 1, 2, 3))
        # k dies, but q is kept by the queued b: the entry falls with its key alone.
        self.assertEqual(machine.told("drop k\nminor")[1:3], (("unkey", 2, 0), ("queue", 1)))

    def test_what_queued_ones_lead_to_stays(self):
        rows = ("let a = record traced 1 then bye", "let b = record traced 1",
                "let c = record counted 0", "let d = record traced 1", "a.0 = b", "b.0 = c",
                "d.0 = b", "drop a", "drop b", "drop c", "drop d")
        events, machine = behind(rows, "minor")
        self.assertEqual(events, (("minor",), ("queue", 0), ("free", 3)))
        self.assertEqual(machine.present, (0, 1, 2))

    def test_those_that_were_queued_are_freed(self):
        events, machine = behind(("let a = record traced 0 then bye", "drop a"), "minor", "finalize")
        self.assertEqual(events, (("minor",), ("queue", 0), ("close", 0), ("say", "#0")))
        self.assertEqual(machine.told("minor"), (("minor",), ("free", 0), ("back", 0)))

    def test_kept_alive_without_its_weak_references_and_entries(self):
        machine = Machine()
        machine.told(lines(
            "proc bye x", "let G = x", "end", "let t = record traced 0 then bye",
            "let w = weak counted t", "let m = map counted", "m at t = 4", "drop t"))
        self.assertEqual(machine.told("minor"), (
            ("minor",), ("clear", 1), ("unkey", 2, 0), ("queue", 0)))
        self.assertEqual(machine.told("finalize\nsay G\nsay get w\nsay m at G"), (
            ("close", 0), ("say", "#0"), ("say", "none"), ("say", "none")))
        self.assertEqual(machine.present, (0, 1, 2))

    def test_counted_rings(self):
        rows = closing_chain("counted", [(0, 0, 1), (1, 0, 0), (2, 0, 2), (2, 1, 0)], 3)
        events, machine = behind(rows, "rings 9")
        self.assertEqual(events, (("rings",), ("queue", 2)))
        self.assertEqual([machine.count_of(n) for n in (0, 1, 2)], [2, 1, 2])
        events = machine.told("finalize\nrings 9")
        self.assertEqual(events, (("close", 2), ("say", "#2"), ("rings",), ("queue", 0),
                                  ("queue", 1), ("free", 2)))

    def test_a_queued_object_that_loses_a_holder_is_a_candidate(self):
        rows = ("let a = record counted 0 then bye", "let d = record counted 2", "d.0 = d",
                "d.1 = a", "drop a", "drop d", "rings 0")
        events, machine = behind(rows, "rings 9")
        self.assertEqual(events, (("rings",), ("queue", 0), ("free", 1)))
        self.assertEqual((machine.count_of(0), machine.candidates), (1, (0,)))

    def test_an_object_that_waits_and_is_queued_does_not_fall(self):
        rows = ("let m = map counted", "let t = record traced 0",
                "let a = record counted 0 then bye", "m at t = a", "drop a", "drop t")
        events, machine = behind(rows, "begin", "slice 9")
        self.assertEqual(events, (("minor",), ("unkey", 0, 1), ("free", 1), ("queue", 2),
                                  ("back", 0), ("begin",), ("finish",)))
        rows = ("let m = map counted", "let t = record traced 0", "minor", "minor",
                "let a = record counted 0 then bye", "m at t = a", "drop a", "drop t")
        events, machine = behind(rows, "begin", "slice 9")
        self.assertEqual(events, (("minor",), ("begin",), ("finish",), ("unkey", 0, 1),
                                  ("queue", 2), ("free", 1), ("back", 1)))
        self.assertEqual((machine.queue, machine.count_of(2)), ((2,), 1))

    def test_queued_counted_object_by_a_finish(self):
        rows = ("let a = record counted 1 then bye", "let t = record traced 1", "a.0 = t",
                "t.0 = a", "drop a", "drop t")
        events, machine = behind(rows, "begin", "slice 1")
        self.assertEqual(events[-2:], (("finish",), ("queue", 0)))
        self.assertEqual((machine.present, machine.count_of(0), machine.proxy_of(0)),
                         ((0, 1), 2, 2))
        events = machine.told("finalize\nbegin\nslice 1")
        self.assertEqual(events, (("close", 0), ("say", "#0"), ("minor",), ("begin",), ("finish",),
                                  ("free", 0), ("free", 1), ("back", 1)))

    def test_many_rings(self):
        # Pairs that use each other; each pair but the first one uses the pair ahead of it.
        many = 12
        links = []
        for at in range(0, many, 2):
            links += [(at, 0, at + 1), (at + 1, 0, at)]
            if at + 2 < many:
                links.append((at + 2, 1, at))
        self.assertEqual(self.queued(links, many), [10, 11])


if __name__ == "__main__":
    unittest.main()
