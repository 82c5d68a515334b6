"""Section 11: closing, settling, policy."""
import unittest

from crossheaps.machine import Machine
from tests.helpers import ended, lines, told

BYE = ("proc bye x", "say x", "end")
ROUND = (("minor",), ("begin",), ("finish",))


def begun(*rows, **policy):
    machine = Machine(**policy)
    machine.told(lines(*rows))
    return machine


class TestFinalize(unittest.TestCase):
    def test_nothing(self):
        self.assertEqual(told("finalize\nfinalize"), ())

    def test_in_the_order_of_queueing(self):
        machine = begun(*BYE, "let a = record counted 0 then bye",
                        "let b = record counted 0 then bye", "drop b", "drop a")
        self.assertEqual(machine.queue, (1, 0))
        self.assertEqual(machine.told("finalize"), (("close", 1), ("say", "#1"), ("free", 1)))
        self.assertEqual(machine.queue, (0,))
        self.assertEqual(machine.told("finalize\nfinalize"),
                         (("close", 0), ("say", "#0"), ("free", 0)))

    def test_the_parameter_holds(self):
        machine = begun("proc bye x", "drop x", "say 1", "end",
                        "let a = record counted 0 then bye", "drop a")
        self.assertEqual(machine.told("finalize"), (("close", 0), ("free", 0), ("say", "1")))

    def test_called_at_most_once(self):
        machine = begun("proc bye x", "let G = x", "end", "let a = record counted 0 then bye",
                        "drop a")
        self.assertEqual(machine.told("finalize"), (("close", 0),))
        self.assertEqual(machine.told("drop G\nfinalize"), (("free", 0),))

    def test_in_a_closing_call(self):
        machine = begun("proc bye x", "say x", "finalize", "say x", "end",
                        "let a = record counted 0 then bye", "let b = record counted 0 then bye",
                        "drop a", "drop b")
        self.assertEqual(machine.told("finalize"), (
            ("close", 0), ("say", "#0"), ("close", 1), ("say", "#1"), ("say", "#1"), ("free", 1),
            ("say", "#0"), ("free", 0)))

    def test_traced_objects(self):
        machine = begun(*BYE, "let t = record traced 0 then bye", "drop t", "minor")
        self.assertEqual(machine.queue, (0,))
        self.assertEqual(machine.told("finalize"), (("close", 0), ("say", "#0")))
        self.assertEqual(machine.told("minor"), (("minor",), ("free", 0), ("back", 0)))

    def test_procedure_of_an_earlier_script(self):
        machine = begun(*BYE)
        self.assertEqual(machine.told("let r = record counted 0 then bye\ndrop r\nfinalize"),
                         (("queue", 0), ("close", 0), ("say", "#0"), ("free", 0)))


class TestSettle(unittest.TestCase):
    def test_one_quiet_round(self):
        self.assertEqual(told("settle"), ROUND)

    def test_a_running_cycle_finishes_first(self):
        machine = begun("let t = record traced 0", "begin", "drop t")
        self.assertEqual(machine.told("settle"), (
            ("finish",), ("minor",), ("begin",), ("finish",), ("free", 0), ("back", 1)) + ROUND)

    def test_queue_ahead_of_the_cycle(self):
        machine = begun(*BYE, "let t = record traced 0", "begin", "drop t",
                        "let a = record counted 0 then bye", "drop a")
        self.assertEqual(machine.told("settle"), (
            ("close", 1), ("say", "#1"), ("free", 1), ("finish",), ("minor",), ("begin",),
            ("finish",), ("free", 0), ("back", 1)) + ROUND)

    def test_each_loss_asks_for_a_round(self):
        for rows, events in (
                (("let a = record counted 1", "a.0 = a", "drop a"), (("free", 0),)),
                (("let a = record counted 0", "let t = record traced 1", "t.0 = a", "minor",
                  "minor", "t.0 = 1"), (("unproxy", 0),))):
            self.assertEqual(begun(*rows).told("settle"), ROUND + events + ROUND)

    def test_moves_and_pages_ask_for_none(self):
        machine = begun("let t = record traced 0")
        self.assertEqual(machine.told("settle"), (
            ("minor",), ("old", 0), ("page", 1, "old"), ("move", 0, 1, 0), ("back", 0),
            ("begin",), ("finish",)))

    def test_closing_calls_that_close_more(self):
        machine = begun(
            "proc bye x", "if N is 0", "else", "let y = record counted 0 then bye", "end",
            "let N = 0", "end", "let N = 1", "let a = record counted 0 then bye", "drop a")
        self.assertEqual(machine.told("settle"), (
            ("close", 0), ("free", 0), ("queue", 1), ("close", 1), ("free", 1)) + ROUND + ROUND)

    def test_fifty_rounds(self):
        # Each call makes a traced object that only the cycle of its round finds.
        machine = begun("proc bye x", "let y = record traced 0 then bye", "end",
                        "let a = record traced 0 then bye", "drop a")
        events = machine.told("settle")
        self.assertEqual(len([event for event in events if event == ("begin",)]), 50)
        self.assertEqual(len([event for event in events if event[0] == "close"]), 49)
        self.assertEqual(machine.queue, (49,))
        events = machine.told("settle")
        self.assertEqual(len([event for event in events if event == ("begin",)]), 50)

    def test_fifty_rounds_are_enough(self):
        # A chain of traced objects with closing procedures: one is closed in each round.
        for many, rounds, left in ((47, 49, 0), (48, 50, 0), (49, 50, 0), (50, 50, 1), (60, 50, 11)):
            machine = begun(*BYE, "let h = none", f"repeat {many}",
                            "let x = record traced 1 then bye", "x.0 = h", "let h = x", "end",
                            "drop x", "drop h")
            events = machine.told("settle")
            self.assertEqual(len([event for event in events if event == ("begin",)]), rounds)
            self.assertEqual(len(machine), left, many)

    def test_in_a_closing_procedure(self):
        machine = begun("proc bye x", "settle", "say x", "end",
                        "let a = record counted 0 then bye", "drop a")
        self.assertEqual(machine.told("settle"),
                         (("close", 0),) + ROUND + (("say", "#0"), ("free", 0)) + ROUND + ROUND)

    def test_just_the_reachable_objects_are_left(self):
        machine = begun(
            *BYE, "let a = record counted 2 then bye", "let t = record traced 2 then bye",
            "a.0 = t", "t.0 = a", "let m = map traced", "m at a = t", "a.1 = m",
            "let w = weak traced t", "t.1 = w", "let r = record counted 1", "r.0 = r",
            "let k = map counted", "k at r = a", "drop a", "drop t", "drop m", "drop w", "drop r")
        machine.told("settle")
        self.assertEqual((machine.present, machine.reach()), ((5,), (5,)))


class TestPolicy(unittest.TestCase):
    def test_none(self):
        text = lines("repeat 40", "let a = record traced 1", "a.0 = a", "let m = map counted",
                     "end")
        machine = Machine()
        self.assertEqual([event for event in machine.told(text) if event[0] == "minor"], [])
        self.assertEqual(len(machine), 41)

    def test_young(self):
        self.assertEqual(told(lines("let a = record traced 0", "let a = record traced 0",
                                    "let b = record traced 0"), young=2), (
            ("page", 0, "young"), ("minor",), ("free", 0)))
        machine = begun("let a = map traced", "let b = map traced", young=2)
        self.assertEqual(machine.told("let c = record counted 0\nlet d = map counted"), ())
        self.assertEqual(machine.told("let e = weak traced a"), (("minor",),))
        self.assertEqual([machine.age_of(0), machine.age_of(1), machine.age_of(4)], [1, 1, 0])

    def test_young_ones_alone_count(self):
        machine = begun("let a = map traced", "minor", "minor", young=1)
        self.assertEqual(machine.told("let b = map traced"), (("page", 2, "young"),))
        self.assertEqual(machine.told("let c = map traced"), (("minor",),))

    def test_start(self):
        machine = begun("let a = map counted", start=2)
        self.assertEqual(machine.told("let b = map counted"), ())
        self.assertEqual(machine.told("let c = map counted"), (("minor",), ("begin",)))
        self.assertEqual(machine.told("let d = map counted"), ())
        self.assertEqual((machine.cycle, machine.kept), ((2, 0), (0, 1)))

    def test_pace(self):
        machine = begun("let a = map counted", "let b = map counted", pace=1)
        self.assertEqual(machine.told("begin\nlet c = map counted"), (("minor",), ("begin",)))
        self.assertEqual(machine.cycle, (2, 1))
        self.assertEqual(machine.told("let d = map counted"), (("finish",),))
        self.assertEqual(machine.told("let e = map counted"), ())

    def test_start_and_pace_in_one_creation(self):
        machine = begun("let a = map counted", start=1, pace=1)
        self.assertEqual(machine.told("let b = map traced"), (
            ("minor",), ("begin",), ("finish",), ("page", 0, "young")))

    def test_order_of_all(self):
        machine = begun("let a = map traced", young=1, start=1, pace=1, limit=1)
        self.assertEqual(ended(machine, "let b = map traced"), ([
            ("minor",), ("minor",), ("old", 0), ("page", 1, "old"), ("move", 0, 1, 0),
            ("back", 0), ("begin",), ("finish",)] + list(ROUND), "Fault", ("full", 0)))

    def test_limit(self):
        machine = begun("let a = record counted 1", "a.0 = a", "drop a", limit=1)
        self.assertEqual(machine.told("let b = map counted"), ROUND + (("free", 0),) + ROUND)
        self.assertEqual(ended(machine, "let c = map counted"),
                         (list(ROUND), "Fault", ("full", 0)))
        self.assertEqual(machine.variables, (("b", ("#", 1)),))

    def test_what_is_freed_by_the_assignment_counts_ahead_of_it(self):
        machine = begun("let a = map counted", limit=1)
        self.assertEqual(ended(machine, "let a = map counted")[1:], ("Fault", ("full", 0)))

    def test_all_creations(self):
        for row in ("let b = record counted 0", "let b = weak counted a", "let b = map traced"):
            machine = begun("let a = map counted", start=1)
            self.assertEqual(machine.told(row)[:2], (("minor",), ("begin",)))

    def test_no_other_rows(self):
        machine = begun("let a = record counted 2", "let m = map counted", young=1, start=2, pace=1)
        text = lines("let b = a", "a.0 = m", "m at a = 3", "let c = a.0", "drop b", "say a", "hold a")
        self.assertEqual(machine.told(text), (("say", "#0"),))
        self.assertEqual(machine.cycle, None)

    def test_closing_calls_of_the_policy(self):
        machine = begun(*BYE, "let a = record counted 0 then bye", "drop a", limit=1)
        self.assertEqual(machine.told("let b = map counted"), (
            ("close", 0), ("say", "#0"), ("free", 0)) + ROUND + ROUND)
        self.assertEqual(machine[1], ("counted", "map", ()))

    def test_rests_while_a_settle_is_running(self):
        machine = begun("proc bye x", "let y = record traced 0", "let z = record traced 0", "end",
                        "let a = record counted 0 then bye", "drop a", young=1, start=1, pace=1,
                        limit=1)
        self.assertEqual(machine.copy().told("settle")[:4], (
            ("close", 0), ("page", 0, "young"), ("free", 0), ("minor",)))
        events = machine.told("let b = map counted")
        # The cycle of start and pace comes first; the limit settles.
        self.assertEqual(events[:7], ROUND + (("close", 0), ("page", 0, "young"), ("free", 0),
                                              ("minor",)))

    def test_does_not_rest_in_a_call_of_finalize(self):
        machine = begun("proc bye x", "let y = record traced 0", "let z = record traced 0", "end",
                        "let a = record counted 0 then bye", "drop a", young=1)
        self.assertEqual(machine.told("finalize"), (
            ("close", 0), ("page", 0, "young"), ("minor",), ("free", 0)))

    def test_works_again_behind_the_settle(self):
        machine = begun("settle", "let a = map traced", young=1)
        self.assertEqual(machine.told("let b = map traced"), (("minor",),))
        self.assertEqual(told("settle\nsettle\nlet a = map traced\nlet b = map traced", young=1),
                         ROUND + ROUND + (("page", 0, "young"), ("minor",)))

    def test_rests_until_all_settles_are_ended(self):
        machine = begun("proc bye x", "let y = map traced", "settle", "let y = map traced",
                        "let z = map traced", "end", "let a = record counted 0 then bye", "drop a",
                        young=1)
        events = machine.told("settle")
        self.assertEqual(events[0], ("close", 0))
        self.assertEqual(events.count(("minor",)), events.count(("begin",)))
        self.assertEqual(machine.told("let a = map traced\nlet b = map traced")[-1], ("minor",))

    def test_numbers_are_given_behind_the_policy(self):
        machine = begun("proc bye x", "let G = record counted 0", "end",
                        "let a = record counted 1 then bye", "drop a", limit=1)
        found = ended(machine, "let b = map counted")
        self.assertEqual(found[1:], ("Fault", ("full", 0)))
        machine = begun("proc bye x", "let y = record counted 0", "end",
                        "let a = record counted 1 then bye", "drop a", limit=1)
        machine.told("let b = map counted")
        self.assertEqual(machine.variables, (("b", ("#", 2)),))

    def test_the_page_of_the_creation_is_behind_the_policy(self):
        machine = begun("let a = map traced", "drop a", young=1)
        self.assertEqual(machine.told("let b = map traced"), (
            ("minor",), ("free", 0), ("back", 0), ("page", 1, "young")))

    def test_the_page_of_the_creation_is_ahead_of_its_assignment(self):
        machine = begun("let a = record counted 0")
        self.assertEqual(machine.told("let a = map traced"), (("page", 0, "young"), ("free", 0)))


if __name__ == "__main__":
    unittest.main()
