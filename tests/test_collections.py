"""Sections 8 to 10: minor collections, rings of counted objects, cycles."""
import unittest

from crossheaps.machine import Machine
from tests.helpers import lines, told


def begun(*rows, **policy):
    machine = Machine(**policy)
    machine.told(lines(*rows))
    return machine


class TestMinor(unittest.TestCase):
    def test_always_told(self):
        self.assertEqual(told("minor\nminor"), (("minor",), ("minor",)))

    def test_ages(self):
        machine = begun("let t = record traced 0", "let c = record counted 0",
                        "let u = record traced 1", "u.0 = c")
        ages = []
        for _ in range(4):
            ages.append((machine.age_of(0), machine.proxy_of(1)))
            machine.told("minor")
        self.assertEqual(ages, [(0, 0), (1, 1), (2, 2), (2, 2)])

    def test_old_ones_are_told_once(self):
        machine = begun("let b = record traced 0", "let a = record traced 0")
        self.assertEqual(machine.told("minor"), (("minor",),))
        self.assertEqual(machine.told("minor"), (
            ("minor",), ("old", 0), ("old", 1), ("page", 1, "old"), ("move", 0, 1, 0),
            ("move", 1, 1, 1), ("back", 0)))
        self.assertEqual(machine.told("minor"), (("minor",),))

    def test_proxies_that_get_old_are_not_told(self):
        machine = begun("let c = record counted 0", "let t = record traced 1", "t.0 = c",
                        "pin t", "minor")
        self.assertEqual(machine.told("minor"), (("minor",), ("old", 1)))
        self.assertEqual(machine.proxy_of(0), 2)

    def test_dead_are_young_ones_alone(self):
        machine = begun("let t = record traced 0", "minor", "minor", "drop t")
        self.assertEqual(machine.told("minor"), (("minor",),))
        self.assertEqual(machine.present, (0,))

    def test_roots(self):
        machine = begun(
            "proc bye x", "end", "let a = record traced 0", "let B = record traced 0",
            "let c = record traced 0", "pin c", "drop c", "let d = record traced 0", "hold d",
            "drop d", "let e = record counted 1 then bye", "let f = record traced 0", "e.0 = f",
            "drop f", "drop e", "let g = record traced 0", "drop g")
        self.assertEqual(machine.told("minor"), (("minor",), ("free", 6)))

    def test_variables_of_running_calls(self):
        text = lines("proc p x", "let y = record traced 0", "do q", "end", "proc q",
                     "let z = record traced 0", "minor", "end", "do p 1")
        self.assertEqual(told(text), (("page", 0, "young"), ("minor",)))

    def test_counted_ones_hold(self):
        machine = begun("let c = record counted 2", "let t = record traced 0", "c.0 = t",
                        "c.1 = c", "drop t", "drop c")
        self.assertEqual(machine.told("minor"), (("minor",),))
        self.assertEqual(machine.told("rings 1\nminor"), (
            ("rings",), ("free", 0), ("minor",), ("free", 1), ("back", 0)))

    def test_old_ones_hold(self):
        machine = begun("let t = record traced 1", "minor", "minor", "let u = record traced 1",
                        "t.0 = u", "u.0 = u", "drop u", "drop t")
        self.assertEqual(machine.told("minor"), (("minor",),))
        self.assertEqual(machine.present, (0, 1))

    def test_maps_of_counted_and_old_hold_by_keys(self):
        machine = begun(
            "let m = map counted", "let n = map traced", "minor", "minor",
            "let k = record traced 0", "let v = record traced 0", "m at k = v", "n at k = v",
            "drop v")
        self.assertEqual(machine.told("minor"), (("minor",),))
        machine.told("let k = none")
        self.assertEqual(machine.told("minor"), (
            ("minor",), ("unkey", 0, 2), ("unkey", 1, 2), ("free", 2), ("free", 3), ("back", 2)))

    def test_young_proxies(self):
        machine = begun("let c = record counted 0", "let d = record counted 0",
                        "let t = record traced 2", "t.0 = c", "t.1 = d", "t.0 = none")
        self.assertEqual(machine.told("minor"), (("minor",), ("unproxy", 0)))
        self.assertEqual((machine.proxy_of(0), machine.proxy_of(1)), (None, 1))
        self.assertEqual(machine.candidates, (0,))

    def test_old_proxies_stay(self):
        machine = begun("let c = record counted 0", "let t = record traced 1", "t.0 = c", "minor",
                        "minor", "t.0 = none")
        self.assertEqual(machine.told("minor"), (("minor",),))
        self.assertEqual(machine.copy().told("begin\nslice 2"), (
            ("minor",), ("begin",), ("finish",), ("unproxy", 0)))
        self.assertEqual(machine.copy().told("begin\ndrop c\nslice 2"), (
            ("minor",), ("begin",), ("finish",), ("unproxy", 0), ("free", 0)))
        self.assertEqual(machine.copy().told("drop c\nbegin\nslice 2"), (
            ("minor",), ("begin",), ("finish",), ("free", 0)))

    def test_proxies_of_dead_holders(self):
        machine = begun("let c = record counted 0", "let t = record traced 1", "t.0 = c",
                        "drop t")
        self.assertEqual(machine.told("minor"), (("minor",), ("free", 1), ("unproxy", 0),
                                                 ("back", 0)))

    def test_an_object_of_the_middle_age_is_young(self):
        machine = begun("let t = record traced 0", "minor", "drop t")
        self.assertEqual(machine.told("minor"), (("minor",), ("free", 0), ("back", 0)))


class TestRings(unittest.TestCase):
    def test_always_told(self):
        self.assertEqual(told("rings 0\nrings 10000"), (("rings",), ("rings",)))

    def test_first_candidates(self):
        machine = begun(*[row for name in "abcd" for row in (
            f"let {name} = record counted 1", f"{name}.0 = {name}", f"drop {name}")])
        self.assertEqual(machine.candidates, (0, 1, 2, 3))
        self.assertEqual(machine.told("rings 0"), (("rings",),))
        self.assertEqual(machine.told("rings 1"), (("rings",), ("free", 0)))
        self.assertEqual(machine.candidates, (1, 2, 3))
        self.assertEqual(machine.told("rings 2"), (("rings",), ("free", 1), ("free", 2)))
        self.assertEqual(machine.told("rings 5"), (("rings",), ("free", 3)))
        self.assertEqual(machine.candidates, ())

    def test_a_ring_of_two(self):
        machine = begun("let a = record counted 1", "let b = record counted 1", "a.0 = b",
                        "b.0 = a", "drop b", "drop a")
        self.assertEqual(machine.told("rings 1"), (("rings",), ("free", 0), ("free", 1)))

    def test_supported_ones(self):
        for row in ("let x = a", "pin a", "hold a", "let t = record traced 1\nt.0 = a\ndrop t",
                    "let q = record counted 1\nq.0 = a", "let m = map counted\nm at m = a"):
            machine = begun("let a = record counted 1", "let b = record counted 1", "a.0 = b",
                            "b.0 = a", row, "drop a", "drop b")
            self.assertEqual(machine.told("rings 9"), (("rings",),), row)
            self.assertEqual(machine.candidates, ())

    def test_support_goes_on(self):
        machine = begun("let a = record counted 1", "let b = record counted 1",
                        "let c = record counted 1", "a.0 = b", "b.0 = c", "c.0 = b", "drop b",
                        "drop c")
        self.assertEqual(machine.told("rings 9"), (("rings",),))
        machine = begun("let a = record counted 2", "let b = record counted 1",
                        "let c = record counted 1", "a.0 = b", "a.1 = a", "b.0 = c", "c.0 = b",
                        "drop b", "drop c", "drop a")
        self.assertEqual(machine.told("rings 9"), (("rings",), ("free", 0), ("free", 1),
                                                   ("free", 2)))

    def test_a_queued_object_supports(self):
        machine = begun("proc bye x", "end", "let a = record counted 1 then bye",
                        "let b = record counted 1", "a.0 = b", "b.0 = b", "drop b", "drop a")
        self.assertEqual(machine.queue, (0,))
        self.assertEqual(machine.told("rings 9"), (("rings",),))

    def test_values_whatever_the_keys(self):
        # The key is no member of the ring; a value counts as a slot does.
        machine = begun("let k = record counted 0", "let m = map counted", "m at k = m", "drop m")
        self.assertEqual(machine.told("rings 9"), (("rings",), ("free", 1)))
        machine = begun("let k = record traced 0", "let m = map counted", "m at k = m", "drop m",
                        "drop k")
        self.assertEqual(machine.told("rings 9"), (("rings",), ("free", 1)))

    def test_a_value_that_is_used_by_its_unreachable_key_alone(self):
        machine = begun("let m = map counted", "let a = record counted 1", "a.0 = a",
                        "m at a = a", "drop a")
        self.assertEqual(machine.told("rings 9"), (("rings",),))
        self.assertEqual(machine.present, (0, 1))

    def test_through_a_traced_object(self):
        rows = ("let a = record counted 1", "let t = record traced 1", "a.0 = t", "t.0 = a",
                "drop a", "drop t")
        machine = begun(*rows)
        self.assertEqual(machine.told("rings 9"), (("rings",),))
        self.assertEqual(machine.told("begin\nslice 0")[-4:],
                         (("finish",), ("free", 0), ("free", 1), ("back", 1)))

    def test_references_count_as_often_as_they_are(self):
        machine = begun("let a = record counted 3", "a.0 = a", "a.1 = a", "a.2 = a", "drop a")
        self.assertEqual(machine.count_of(0), 3)
        self.assertEqual(machine.told("rings 9"), (("rings",), ("free", 0)))

    def test_no_proxies_are_removed(self):
        machine = begun("let a = record counted 1", "a.0 = a", "let c = record counted 0",
                        "let t = record traced 1", "t.0 = c", "t.0 = none", "drop a")
        self.assertEqual(machine.told("rings 9"), (("rings",), ("free", 0)))
        self.assertEqual(machine.proxy_of(1), 0)

    def test_clears_and_entries(self):
        machine = begun("let a = record counted 1", "a.0 = a", "let w = weak counted a",
                        "let m = map traced", "m at a = w", "drop a")
        self.assertEqual(machine.told("rings 9"), (
            ("rings",), ("clear", 1), ("unkey", 2, 0), ("free", 0)))


class TestCycle(unittest.TestCase):
    def test_begin(self):
        machine = begun("let t = record traced 0", "let c = record counted 0")
        self.assertEqual((machine.cycle, machine.kept), (None, ()))
        self.assertEqual(machine.told("begin"), (
            ("minor",), ("old", 0), ("page", 1, "old"), ("move", 0, 1, 0), ("back", 0),
            ("begin",)))
        self.assertEqual((machine.cycle, machine.kept, machine.age_of(0)), ((2, 0), (0, 1), 2))

    def test_begin_while_one_is_running(self):
        machine = begun("let t = record traced 0", "begin", "slice 0", "let u = record traced 0",
                        "drop u")
        self.assertEqual(machine.told("begin"), ())
        self.assertEqual((machine.cycle, machine.present), ((1, 0), (0, 1)))

    def test_begin_makes_all_old(self):
        machine = begun("let c = record counted 0", "let t = record traced 1", "t.0 = c",
                        "minor", "let u = record traced 0", "let d = record counted 0",
                        "t.0 = d", "begin")
        self.assertEqual([machine.age_of(1), machine.age_of(2)], [2, 2])
        self.assertEqual([machine.proxy_of(0), machine.proxy_of(3)], [None, 2])

    def test_slice_without_a_cycle(self):
        self.assertEqual(told("slice 0\nslice 10000"), ())

    def test_slices(self):
        machine = begun("let a = record traced 1", "let b = record traced 0", "let c = map counted",
                        "a.0 = b", "begin")
        self.assertEqual(machine.told("slice 2\nslice 0"), ())
        self.assertEqual(machine.cycle, (3, 2))
        self.assertEqual(machine.told("slice 1"), (("finish",),))
        self.assertEqual((machine.cycle, machine.kept), (None, ()))

    def test_slice_of_nothing_finishes_when_nothing_is_kept(self):
        self.assertEqual(told("begin\nslice 0"), (("minor",), ("begin",), ("finish",)))

    def test_freed_objects_are_kept_no_more(self):
        machine = begun("let a = record counted 0", "let b = record counted 0", "begin", "slice 1")
        self.assertEqual(machine.kept, (0, 1))
        self.assertEqual(machine.told("drop a"), (("free", 0),))
        self.assertEqual((machine.kept, machine.cycle), ((1,), (2, 1)))
        self.assertEqual(machine.told("slice 0"), (("finish",),))

    def test_finish_frees_both_homes(self):
        machine = begun("let a = record counted 2", "let t = record traced 1", "a.0 = t",
                        "a.1 = a", "t.0 = a", "let w = weak traced a", "drop a", "drop t")
        self.assertEqual(machine.told("begin\nslice 1"), (
            ("minor",), ("old", 1), ("old", 2), ("page", 1, "old"), ("move", 1, 1, 0),
            ("move", 2, 1, 1), ("back", 0), ("begin",), ("finish",), ("clear", 2), ("free", 0),
            ("free", 1)))

    def test_what_became_unreachable_later_is_left(self):
        machine = begun("let t = record traced 0", "begin", "drop t")
        self.assertEqual(machine.told("slice 1"), (("finish",),))
        self.assertEqual(machine.told("begin\nslice 1"), (
            ("minor",), ("begin",), ("finish",), ("free", 0), ("back", 1)))

    def test_new_objects_are_left(self):
        machine = begun("begin", "let t = record traced 0", "drop t")
        self.assertEqual(machine.told("slice 1"), (("finish",),))
        self.assertEqual(machine.present, (0,))

    def test_proxies_of_all_ages(self):
        machine = begun("let c = record counted 0", "let d = record counted 0",
                        "let t = record traced 2", "t.0 = c", "minor", "minor", "t.1 = d",
                        "t.0 = none")
        self.assertEqual(machine.told("begin"), (("minor",), ("begin",)))
        self.assertEqual(machine.told("t.1 = none\nslice 9"), (
            ("finish",), ("unproxy", 0), ("unproxy", 1)))

    def test_minors_go_on_within_a_cycle(self):
        machine = begun("let t = record traced 0", "begin", "let u = record traced 0", "drop u")
        self.assertEqual(machine.told("minor"), (("minor",), ("free", 1), ("back", 2)))
        self.assertEqual(machine.cycle, (1, 0))


class TestKept(unittest.TestCase):
    WEAK = ("let t = record traced 1", "let u = record traced 0", "t.0 = u", "let w = weak counted t",
            "drop u", "minor", "minor", "drop t", "begin")

    def test_answers(self):
        for row in ("let x = get w", "say get w"):
            machine = begun(*self.WEAK)
            self.assertEqual(machine.kept, (2,))
            machine.told(row)
            self.assertEqual(machine.kept, (0, 1, 2))
            self.assertEqual(machine.told("slice 3"), (("finish",),))

    def test_without_an_answer(self):
        machine = begun(*self.WEAK)
        self.assertEqual(machine.told("slice 1"), (
            ("finish",), ("clear", 2), ("free", 0), ("free", 1), ("back", 1)))

    def test_an_answer_that_is_kept_changes_nothing(self):
        machine = begun("let t = record traced 1", "let u = record traced 0",
                        "let w = weak counted t", "begin", "t.0 = u", "drop u",
                        "let n = record traced 0", "say get w")
        self.assertEqual(machine.kept, (0, 1, 2))

    def test_the_answer_is_ahead_of_the_assignment(self):
        # The variable lets go of c behind the answer; what c leads to is kept all the same.
        machine = begun(
            "let t = record traced 0", "minor", "minor", "let x = weak counted t", "drop t",
            "begin")
        self.assertEqual(machine.kept, (1,))
        self.assertEqual(machine.told("let x = get x"), (("free", 1),))
        self.assertEqual(machine.kept, (0,))

    def test_as_references_stand_then(self):
        # Behind begin the kept a gets a reference to b, which only the answer makes known.
        machine = begun(
            "let a = record traced 1", "let b = record traced 0", "let v = weak counted b",
            "let w = weak counted b", "minor", "minor", "drop b", "let c = record traced 0",
            "let u = weak counted c", "minor", "minor", "drop c", "begin")
        self.assertEqual(machine.kept, (0, 2, 3, 5))
        machine.told("say get u")
        self.assertEqual(machine.kept, (0, 2, 3, 4, 5))
        machine.told("let n = record traced 1\nlet x = get v\nn.0 = x\na.0 = x\ndrop x")
        self.assertEqual(machine.kept, (0, 1, 2, 3, 4, 5))

    def test_from_first_on(self):
        # A new object leads to d, found by an answer that kept it; d's slot is set later.
        machine = begun(
            "let d = record traced 1", "let e = record traced 0", "let f = record traced 0",
            "let w = weak counted d", "let v = weak counted e", "d.0 = f", "drop f", "minor",
            "minor", "drop d", "drop e", "begin")
        self.assertEqual(machine.kept, (3, 4))
        machine.told("let n = record traced 2\nlet x = get w\nn.0 = x\ndrop x")
        self.assertEqual(machine.kept, (0, 2, 3, 4))
        machine.told("say get v")
        self.assertEqual(machine.kept, (0, 1, 2, 3, 4))

    def test_queued_by_a_finish(self):
        machine = begun(
            "proc bye x", "let G = x", "end", "let a = record counted 1 then bye",
            "let t = record traced 1", "a.0 = t", "t.0 = a", "drop t", "drop a", "minor", "minor",
            "begin")
        self.assertEqual(machine.kept, ())
        self.assertEqual(machine.told("slice 0"), (("finish",), ("queue", 0)))

    def test_queued_by_a_fall(self):
        # An entry whose value is not kept falls with its key behind begin: the value is queued.
        machine = begun(
            "proc bye x", "end", "let m = map counted", "let k = record counted 0",
            "let w = weak counted k", "let a = record counted 1 then bye",
            "let t = record traced 0", "m at k = a", "a.0 = t", "drop t", "drop a", "hold m",
            "let s = record counted 2", "s.0 = k", "s.1 = s", "drop k", "drop s", "begin")
        self.assertEqual(machine.kept, (0, 2))
        self.assertEqual(machine.told("rings 9"), (
            ("rings",), ("clear", 2), ("unkey", 0, 1), ("free", 1), ("free", 5), ("queue", 3)))
        self.assertEqual(machine.kept, (0, 2, 3, 4))
        self.assertEqual(machine.told("finalize\nslice 9"), (
            ("close", 3), ("free", 3), ("finish",)))
        self.assertEqual(machine.present, (0, 2, 4))

    def test_queued_by_rings(self):
        machine = begun(
            "proc bye x", "end", "let a = record counted 2 then bye", "let t = record traced 0",
            "a.0 = a", "a.1 = t", "drop t", "drop a", "begin")
        self.assertEqual(machine.kept, ())
        self.assertEqual(machine.told("rings 1"), (("rings",), ("queue", 0)))
        self.assertEqual(machine.kept, (0, 1))

    def test_behind_what_is_cleared_and_removed_with_the_object(self):
        # The entry of the key a goes ahead of the queueing, so that its value v is not kept by it.
        machine = begun(
            "proc bye x", "end", "let m = map traced", "let a = record counted 1 then bye",
            "let v = record traced 0", "m at a = v", "drop v", "let s = record counted 2",
            "s.0 = a", "s.1 = s", "drop a", "minor", "minor", "drop s", "begin")
        self.assertEqual(machine.kept, (0,))
        self.assertEqual(machine.told("rings 9"), (
            ("rings",), ("unkey", 0, 1), ("queue", 1), ("free", 3)))
        self.assertEqual(machine.kept, (0, 1))
        self.assertEqual(machine.told("slice 9"), (("finish",), ("free", 2)))

    def test_objects_from_first_on_keep_nothing_when_queued(self):
        machine = begun(
            "proc bye x", "end", "let t = record traced 0", "minor", "minor", "drop t", "begin",
            "let a = record counted 0 then bye", "drop a")
        self.assertEqual((machine.kept, machine.queue), ((), (1,)))
        self.assertEqual(machine.told("slice 0"), (("finish",), ("free", 0), ("back", 1)))


if __name__ == "__main__":
    unittest.main()
