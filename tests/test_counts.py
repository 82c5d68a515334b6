"""Section 6: counts, steps, candidates, falls, proxies."""
import unittest

from crossheaps.machine import Machine
from tests.helpers import lines, told


class TestCounts(unittest.TestCase):
    def test_all_that_counts(self):
        machine = Machine()
        machine.told("let a = record counted 2")
        counts = [machine.count_of(0)]
        for row in ("let b = a", "a.0 = a", "a.1 = a", "let m = map counted\nm at m = a",
                    "pin a", "pin a", "hold a", "hold a", "let t = record traced 2\nt.0 = a",
                    "let B = a"):
            machine.told(row)
            counts.append(machine.count_of(0))
        self.assertEqual(counts, list(range(1, 12)))
        for row in ("drop B", "release a", "unpin a", "m at m = none", "a.1 = none", "a.0 = 3",
                    "drop b", "release a", "unpin a"):
            machine.told(row)
            counts.append(machine.count_of(0))
        self.assertEqual(counts[11:], [10, 9, 8, 7, 6, 5, 4, 3, 2])

    def test_what_does_not_count(self):
        machine = Machine()
        machine.told(lines("let a = record counted 0", "let m = map counted", "m at a = 1",
                           "let w = weak counted a", "let v = weak traced a", "let t = map traced",
                           "t at a = 2"))
        self.assertEqual(machine.count_of(0), 1)
        machine.told("t at a = a\nt at m = a\nlet u = record traced 1\nu.0 = a")
        self.assertEqual((machine.count_of(0), machine.proxy_of(0)), (2, 0))

    def test_parameters_and_the_variables_of_outer_calls(self):
        text = lines("proc p x y", "let z = x", "drop y", "do q x", "end", "proc q x",
                     "let T = weak counted x", "drop x", "end", "let a = record counted 0",
                     "do p a a", "drop a")
        machine = Machine()
        self.assertEqual(machine.told(text), (("clear", 1), ("free", 0)))

    def test_queue(self):
        machine = Machine()
        machine.told("proc bye x\nend\nlet a = record counted 0 then bye\ndrop a")
        self.assertEqual((machine.queue, machine.count_of(0)), ((0,), 1))

    def test_traced_objects_have_none(self):
        self.assertEqual(told("let t = record traced 0\ndrop t"), (("page", 0, "young"),))


class TestProxies(unittest.TestCase):
    def test_of_slots_and_entries(self):
        machine = Machine()
        machine.told(lines("let a = record counted 0", "let b = record counted 0",
                           "let t = record traced 1", "let m = map traced"))
        self.assertEqual([machine.proxy_of(n) for n in (0, 1)], [None, None])
        machine.told("t.0 = a\nm at t = b")
        self.assertEqual([machine.proxy_of(n) for n in (0, 1)], [0, 0])
        self.assertEqual([machine.count_of(n) for n in (0, 1)], [2, 2])
        machine.told("m at a = a\nm at b = b")
        self.assertEqual([machine.count_of(n) for n in (0, 1)], [2, 2])

    def test_counted_holders_make_none(self):
        machine = Machine()
        machine.told("let a = record counted 1\na.0 = a\nlet m = map counted\nm at a = a\npin a")
        self.assertEqual(machine.proxy_of(0), None)

    def test_keys_and_targets_make_none(self):
        machine = Machine()
        machine.told("let a = record counted 0\nlet m = map traced\nm at a = 1\n"
                     "let w = weak traced a")
        self.assertEqual((machine.proxy_of(0), machine.count_of(0)), (None, 1))

    def test_stay_until_a_collection(self):
        machine = Machine()
        self.assertEqual(machine.told(lines(
            "let a = record counted 0", "let t = record traced 1", "t.0 = a", "t.0 = 5", "drop a",
            "rings 5", "drop t")), (("page", 0, "young"), ("rings",)))
        self.assertEqual((machine.count_of(0), machine.proxy_of(0)), (1, 0))

    def test_age_stays_when_stored_again(self):
        machine = Machine()
        machine.told("let a = record counted 0\nlet t = record traced 2\nt.0 = a\nminor\nt.1 = a")
        self.assertEqual((machine.proxy_of(0), machine.count_of(0)), (1, 2))
        machine.told("minor\nt.0 = a")
        self.assertEqual(machine.proxy_of(0), 2)

    def test_freed_objects_have_none(self):
        machine = Machine()
        machine.told(lines("let a = record counted 1", "let t = record traced 1", "a.0 = t",
                           "t.0 = a", "drop a", "drop t"))
        events = machine.told("begin\nslice 9")
        self.assertEqual(events[-4:], (("finish",), ("free", 0), ("free", 1), ("back", 1)))


class TestCandidates(unittest.TestCase):
    def test_ascending_in_a_step(self):
        machine = Machine()
        machine.told(lines(
            "let z = record counted 3", "let a = record counted 0", "let b = record counted 0",
            "let c = record counted 0", "z.0 = c", "z.1 = a", "z.2 = b", "drop z"))
        self.assertEqual(machine.candidates, (1, 2, 3))

    def test_behind_those_that_are_there(self):
        machine = Machine()
        machine.told(lines(
            "let z = record counted 2", "let a = record counted 0", "let b = record counted 0",
            "let c = record counted 0", "z.0 = a", "z.1 = c", "let y = c", "drop y", "let y = b",
            "drop y"))
        self.assertEqual(machine.candidates, (3, 2))
        machine.told("drop z")
        self.assertEqual(machine.candidates, (3, 2, 1))

    def test_not_by_an_equal_count(self):
        machine = Machine()
        machine.told("let a = record counted 2\nlet b = a\nlet b = a\na.0 = a\na.0 = a\nlet a = a")
        self.assertEqual(machine.candidates, ())
        machine.told("let b = none")
        self.assertEqual(machine.candidates, (0,))

    def test_not_by_gains(self):
        machine = Machine()
        machine.told("let a = record counted 1\nhold a\npin a\na.0 = a\nlet b = a")
        self.assertEqual(machine.candidates, ())
        for row in ("release a", "unpin a", "a.0 = none", "drop b"):
            other = machine.copy()
            other.told(row)
            self.assertEqual(other.candidates, (0,), row)

    def test_each_variable_at_the_end_of_a_call(self):
        machine = Machine()
        machine.told(lines("let a = record counted 0", "let b = record counted 0", "proc p x y",
                           "end", "do p b a"))
        self.assertEqual(machine.candidates, (1, 0))

    def test_until_freed(self):
        machine = Machine()
        machine.told("let a = record counted 0\nlet b = a\ndrop b")
        self.assertEqual(machine.candidates, (0,))
        machine.told("drop a")
        self.assertEqual(machine.candidates, ())

    def test_until_rings_take_them(self):
        machine = Machine()
        machine.told("let a = record counted 0\nlet b = a\ndrop b\nrings 0")
        self.assertEqual(machine.candidates, (0,))
        machine.told("rings 1")
        self.assertEqual(machine.candidates, ())
        machine.told("let b = a\ndrop b")
        self.assertEqual(machine.candidates, (0,))

    def test_queued_ones_stay_candidates(self):
        machine = Machine()
        machine.told("proc bye x\nend\nlet a = record counted 0 then bye\nlet b = a\ndrop b\ndrop a")
        self.assertEqual((machine.candidates, machine.queue), ((0,), (0,)))

    def test_the_closing_call_makes_none(self):
        machine = Machine()
        machine.told("proc bye x\nlet G = x\nend\nlet a = record counted 0 then bye\ndrop a")
        machine.told("finalize")
        self.assertEqual((machine.candidates, machine.count_of(0)), ((0,), 1))
        machine = Machine()
        machine.told("proc bye x\nlet G = x\nsay u\nend\nlet a = record counted 0 then bye\nhold a")
        self.assertEqual(machine.candidates, ())

    def test_in_falls(self):
        machine = Machine()
        machine.told(lines(
            "let z = record counted 2", "let y = record counted 1", "let a = record counted 0",
            "let b = record counted 0", "z.0 = y", "z.1 = b", "y.0 = a", "drop y"))
        self.assertEqual(machine.candidates, (1,))
        self.assertEqual(machine.told("drop z"), (("free", 0), ("free", 1)))
        self.assertEqual(machine.candidates, (3, 2))

    def test_a_traced_holder_that_lets_go_makes_none(self):
        machine = Machine()
        machine.told("let a = record counted 0\nlet t = record traced 1\nt.0 = a\nt.0 = none")
        self.assertEqual(machine.candidates, ())


class TestFalls(unittest.TestCase):
    def test_ascending_then_behind_the_others(self):
        text = lines(
            "let z = record counted 2", "let a = record counted 1", "let b = record counted 1",
            "let c = record counted 0", "let d = record counted 0", "z.0 = b", "z.1 = a",
            "a.0 = d", "b.0 = c", "drop a", "drop b", "drop c", "drop d", "drop z")
        self.assertEqual(told(text), (("free", 0), ("free", 1), ("free", 2), ("free", 4),
                                      ("free", 3)))

    def test_an_object_of_several_holders_falls_last(self):
        text = lines("let z = record counted 2", "let a = record counted 1",
                     "let b = record counted 0", "z.0 = a", "z.1 = b", "a.0 = b", "drop a",
                     "drop b", "drop z")
        self.assertEqual(told(text), (("free", 0), ("free", 1), ("free", 2)))

    def test_clear_ahead_of_unkey_ahead_of_free(self):
        text = lines(
            "let k = record counted 0", "let m = map traced", "let w = weak traced k",
            "let n = map counted", "let v = weak counted k", "n at k = 1", "m at k = 2", "drop k")
        self.assertEqual(told(text), (("page", 0, "young"), ("clear", 2), ("clear", 4),
                                      ("unkey", 1, 0), ("unkey", 3, 0), ("free", 0)))

    def test_cleared_when_its_turn_comes(self):
        text = lines(
            "let z = record counted 1", "let a = record counted 0", "z.0 = a",
            "let v = weak counted a", "let w = weak counted z", "drop a", "drop z")
        self.assertEqual(told(text), (("clear", 3), ("free", 0), ("clear", 2), ("free", 1)))

    def test_entries_let_their_values_go(self):
        text = lines(
            "let m = map counted", "let k = record counted 1", "let v = record counted 0",
            "let u = record counted 0", "m at k = u", "k.0 = v", "drop u", "drop v", "drop k")
        self.assertEqual(told(text), (("unkey", 0, 1), ("free", 1), ("free", 2), ("free", 3)))

    def test_values_in_traced_maps_keep_their_proxies(self):
        machine = Machine()
        text = lines("let m = map traced", "let k = record counted 0", "let v = record counted 0",
                     "m at k = v", "drop v", "drop k")
        self.assertEqual(machine.told(text), (("page", 0, "young"), ("unkey", 0, 1), ("free", 1)))
        self.assertEqual((machine.present, machine.count_of(2)), ((0, 2), 1))

    def test_what_a_freed_object_has_goes_without_events(self):
        text = lines(
            "let k = record counted 0", "let v = record counted 0", "let m = map counted",
            "m at k = v", "m at v = 5", "drop v", "drop m", "let w = weak counted k", "drop w",
            "drop k")
        self.assertEqual(told(text), (("free", 2), ("free", 1), ("free", 3), ("free", 0)))

    def test_a_map_that_is_its_own_key(self):
        text = "let m = map counted\nlet v = record counted 0\nm at m = v\ndrop v\ndrop m"
        self.assertEqual(told(text), (("unkey", 0, 0), ("free", 0), ("free", 1)))

    def test_a_weak_object_that_takes_the_name_of_its_target(self):
        text = "let a = record counted 0\nlet a = weak counted a"
        self.assertEqual(told(text), (("clear", 1), ("free", 0)))

    def test_replacing_an_entry(self):
        machine = Machine()
        text = lines("let m = map counted", "let v = record counted 0", "let w = record counted 0",
                     "m at m = v", "drop v", "let u = w", "drop u", "m at m = w", "drop w")
        self.assertEqual(machine.told(text), (("free", 1),))
        self.assertEqual((machine.count_of(2), machine.candidates), (1, (2,)))
        self.assertEqual(machine.told("m at m = 5"), (("free", 2),))

    def test_removing_an_entry_tells_nothing(self):
        text = lines("let m = map counted", "let k = record counted 0", "let v = record counted 0",
                     "m at k = v", "drop v", "m at k = none", "m at k = none")
        self.assertEqual(told(text), (("free", 2),))

    def test_queued_once_then_freed(self):
        machine = Machine()
        text = lines("proc bye x", "say x", "let G = x", "end",
                     "let a = record counted 1 then bye", "let w = weak counted a", "drop a")
        self.assertEqual(machine.told(text), (("clear", 1), ("queue", 0)))
        self.assertEqual(machine.told("finalize"), (("close", 0), ("say", "#0")))
        self.assertEqual(machine.told("let w = weak counted G\ndrop G"),
                         (("free", 1), ("clear", 2), ("free", 0)))

    def test_queued_ones_keep_what_they_hold(self):
        machine = Machine()
        text = lines("proc bye x", "end", "let a = record counted 1 then bye",
                     "let b = record counted 0", "a.0 = b", "drop b", "drop a")
        self.assertEqual(machine.told(text), (("queue", 0),))
        self.assertEqual(machine.told("finalize"), (("close", 0), ("free", 0), ("free", 1)))

    def test_mixed_list(self):
        text = lines(
            "proc bye x", "end", "let z = record counted 3", "let a = record counted 1",
            "let b = record counted 1 then bye", "let c = record counted 0", "z.0 = b", "z.1 = a",
            "a.0 = c", "b.0 = c", "drop a", "drop b", "drop c", "drop z")
        self.assertEqual(told(text), (("free", 0), ("free", 1), ("queue", 2)))

    def test_a_long_chain(self):
        text = lines("let h = none", "repeat 2000", "let x = record counted 1", "x.0 = h",
                     "let h = x", "end", "drop x", "drop h")
        self.assertEqual(told(text), tuple(("free", n) for n in range(1999, -1, -1)))

    def test_the_new_object_and_its_assignment_are_one_step(self):
        machine = Machine()
        text = "let a = record counted 0\nlet a = record counted 0\nlet a = map traced"
        self.assertEqual(machine.told(text), (("free", 0), ("page", 0, "young"), ("free", 1)))


if __name__ == "__main__":
    unittest.main()
