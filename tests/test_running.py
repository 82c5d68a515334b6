"""Section 5: machines, events, values, and what they show."""
import types
import unittest

from crossheaps.machine import Machine
from tests.helpers import ANY, ended, lines, raised, told


class TestPolicyArguments(unittest.TestCase):
    def test_bounds(self):
        for word in ("young", "start", "pace", "limit"):
            for value in (None, 1, 2, 9999, 10000):
                self.assertEqual(len(Machine(**{word: value})), 0)
            for value in (0, -1, 10001, 10 ** 39, True, False, "1", "", (1,), [1], {}, (), []):
                self.assertEqual(raised(Machine, **{word: value}), ("BadPolicy", {"word": word}))

    def test_any_value(self):
        for word in ("young", "start", "pace", "limit"):
            for value in ANY:
                if value is not None:
                    wanted = ("BadPolicy", {"word": word})
                    self.assertEqual(raised(Machine, **{word: value}), wanted)

    def test_first_word(self):
        found = raised(Machine, limit=0, pace=0, start=0, young=0)
        self.assertEqual(found, ("BadPolicy", {"word": "young"}))
        found = raised(Machine, limit=0, pace=0, start=0, young=1)
        self.assertEqual(found, ("BadPolicy", {"word": "start"}))
        found = raised(Machine, limit=0, pace="2", start=None)
        self.assertEqual(found, ("BadPolicy", {"word": "pace"}))
        found = raised(Machine, limit=[], pace=3, start=10000)
        self.assertEqual(found, ("BadPolicy", {"word": "limit"}))


class TestRun(unittest.TestCase):
    def test_generator(self):
        machine = Machine()
        events = machine.run("say 1\nsay none\nsay -5")
        self.assertIsInstance(events, types.GeneratorType)
        self.assertEqual(next(events), ("say", "1"))
        self.assertEqual(list(events), [("say", "none"), ("say", "-5")])

    def test_given_when_it_happens(self):
        events = Machine().run("say 1\nsay 2\nsay x\nsay 3")
        self.assertEqual(next(events), ("say", "1"))
        self.assertEqual(next(events), ("say", "2"))
        self.assertEqual(raised(next, events), ("Fault", {"word": "unset", "row": 2}))

    def test_errors_ahead_of_all_events(self):
        for text, name, row in (("say 1\nsay", "BadRow", 1), ("say 1\nend", "BadBlock", 1),
                                ("say 1\nproc p\nend\nproc p\nend", "Twice", 3),
                                ("say 1\ndo p", "NoProcedure", 1),
                                ("say 1\ndo p\nproc p x\nend", "WrongCount", 1)):
            machine = Machine()
            self.assertEqual(ended(machine, text), ([], name, (row,)))
            self.assertEqual(raised(machine.told, text), (name, {"row": row}))

    def test_any_value(self):
        for value in ANY:
            if not isinstance(value, str):
                self.assertEqual(ended(Machine(), value), ([], "BadRow", (0,)))
        self.assertEqual(told(""), ())

    def test_nothing_is_done_of_a_wrong_script(self):
        machine = Machine()
        ended(machine, "let x = 1\nproc p\nend\nend")
        self.assertEqual(machine.variables, ())
        self.assertEqual(ended(machine, "do p"), ([], "NoProcedure", (0,)))
        self.assertEqual(machine.told("proc p x\nsay x\nend\ndo p 5"), (("say", "5"),))

    def test_variables_stay(self):
        machine = Machine()
        machine.told("let x = 1\nlet Y = record counted 1")
        self.assertEqual(machine.variables, (("Y", ("#", 0)), ("x", 1)))
        self.assertEqual(machine.told("say x\nsay Y"), (("say", "1"), ("say", "#0")))

    def test_procedures_stay(self):
        machine = Machine()
        machine.told("proc p x\nsay x\nend")
        self.assertEqual(machine.told("do p 4"), (("say", "4"),))
        self.assertEqual(ended(machine, "do p"), ([], "WrongCount", (0,)))
        self.assertEqual(ended(machine, "say 1\nproc p x\nend"), ([], "Twice", (1,)))
        self.assertEqual(ended(machine, "do q\nproc p\nend"), ([], "NoProcedure", (0,)))
        self.assertEqual(ended(machine, "do p\nproc p\nend"), ([], "WrongCount", (0,)))
        self.assertEqual(machine.told("let r = record counted 0 then p\ndrop r\nfinalize"),
                         (("queue", 0), ("close", 0), ("say", "#0"), ("free", 0)))

    def test_procedures_stay_behind_a_fault(self):
        machine = Machine()
        self.assertEqual(ended(machine, "say x\nproc p\nsay 3\nend")[1], "Fault")
        self.assertEqual(machine.told("do p"), (("say", "3"),))
        self.assertEqual(ended(machine, "proc p\nend"), ([], "Twice", (0,)))


class TestStatements(unittest.TestCase):
    def test_values(self):
        text = lines("let x = -12", "say x", "let y = x", "say y", "let x = none", "say x",
                     "say 1000000000", "say -1000000000", "let r = record counted 2", "say r",
                     "say r.1", "r.1 = 5", "say r.1", "let z = r.1", "say z", "r.1 = r",
                     "say r.1", "r.1 = none", "say r.1", "say 0")
        said = ["-12", "-12", "none", "1000000000", "-1000000000", "#0", "none", "5", "5", "#0",
                "none", "0"]
        self.assertEqual(told(text), tuple(("say", word) for word in said))

    def test_weak(self):
        text = lines("let r = record counted 0", "let w = weak counted r", "say get w",
                     "let x = get w", "say x", "drop x", "drop r", "say get w", "let x = get w",
                     "say x", "let w = weak traced w", "say get w")
        self.assertEqual(told(text), (
            ("say", "#0"), ("say", "#0"), ("clear", 1), ("free", 0), ("say", "none"),
            ("say", "none"), ("page", 0, "young"), ("clear", 2), ("free", 1), ("say", "none")))

    def test_map(self):
        text = lines("let m = map counted", "let k = record counted 0", "say m at k", "m at k = 7",
                     "say m at k", "let x = m at k", "say x", "m at k = k", "say m at k",
                     "m at m = m", "say m at m", "m at k = none", "say m at k", "m at k = none")
        said = ["none", "7", "7", "#1", "#0", "none"]
        self.assertEqual(told(text), tuple(("say", word) for word in said))

    def test_if(self):
        text = lines("let a = record counted 0", "let b = record counted 0", "let c = a",
                     "let n = 5")
        pairs = {("a", "a"): True, ("a", "c"): True, ("a", "b"): False, ("a", "none"): False,
                 ("none", "none"): True, ("5", "n"): True, ("n", "6"): False, ("0", "none"): False,
                 ("a", "0"): False, ("1", "1"): True, ("-1", "1"): False, ("b", "1"): False}
        for (left, right), same in pairs.items():
            rows = lines(text, f"if {left} is {right}", "say 1", "else", "say 2", "end", "say 3")
            self.assertEqual(told(rows), (("say", "1" if same else "2"), ("say", "3")))
            rows = lines(text, f"if {left} is {right}", "say 1", "end")
            self.assertEqual(told(rows), (("say", "1"),) if same else ())

    def test_blocks_within_blocks(self):
        text = lines("let n = 0", "repeat 2", "if n is 0", "repeat 2", "say 1", "end", "let n = 1",
                     "else", "if n is 1", "say 2", "else", "say 3", "end", "end", "say 4", "end")
        said = ["1", "1", "4", "2", "4"]
        self.assertEqual(told(text), tuple(("say", word) for word in said))

    def test_eight_blocks(self):
        text = lines(*(["repeat 2"] * 8 + ["say 1"] + ["end"] * 8))
        self.assertEqual(len(told(text)), 256)

    def test_repeat(self):
        self.assertEqual(told("repeat 0\nsay 1\nend"), ())
        self.assertEqual(told("repeat 0\nrepeat 5\nsay 1\nend\nend\nsay 2"), (("say", "2"),))
        self.assertEqual(len(told("repeat 3\nsay 1\nend")), 3)
        self.assertEqual(told("repeat 10000\nend\nsay 1"), (("say", "1"),))

    def test_procedures_are_passed_by(self):
        self.assertEqual(told("say 1\nproc p\nsay 2\nend\nsay 3\ndo p"),
                         (("say", "1"), ("say", "3"), ("say", "2")))

    def test_values_of_calls(self):
        text = lines("let x = 5", "proc p a b c d", "say a", "say b", "say c", "say d", "end",
                     "let r = record counted 0", "do p x none -3 r")
        self.assertEqual(told(text), (("say", "5"), ("say", "none"), ("say", "-3"), ("say", "#0")))

    def test_variables_of_calls(self):
        machine = Machine()
        text = lines("let x = 1", "proc p x", "let y = x", "let G = y", "let x = 7", "say x",
                     "end", "do p 2", "say x", "say G")
        self.assertEqual(machine.told(text), (("say", "7"), ("say", "1"), ("say", "2")))
        self.assertEqual(machine.variables, (("G", 2), ("x", 1)))

    def test_names_of_the_script_are_not_set_in_calls(self):
        machine = Machine()
        self.assertEqual(ended(machine, "let x = 1\nproc p\nsay x\nend\ndo p"),
                         ([], "Fault", ("unset", 2)))
        self.assertEqual(machine.told("say x"), (("say", "1"),))

    def test_global_names_in_calls(self):
        text = lines("proc p", "drop G", "let H = 3", "end", "let G = 1", "do p", "say H", "say G")
        self.assertEqual(ended(Machine(), text), ([("say", "3")], "Fault", ("unset", 7)))

    def test_recursion(self):
        text = lines("proc p n m", "if n is none", "say 0", "else", "let x = n.0", "do p x 1",
                     "say n", "end", "end", "let a = record counted 1", "let b = record counted 1",
                     "a.0 = b", "do p a 0")
        self.assertEqual(told(text), (("say", "0"), ("say", "#1"), ("say", "#0")))

    def test_parameter_named_as_its_procedure(self):
        self.assertEqual(told("proc p p\nsay p\nend\nlet p = 4\ndo p 3\nsay p"),
                         (("say", "3"), ("say", "4")))

    def test_the_new_value_is_held_first(self):
        text = lines("let a = record counted 1", "let b = record counted 0", "a.0 = b", "drop b",
                     "let a = a.0", "say a")
        self.assertEqual(told(text), (("free", 0), ("say", "#1")))
        self.assertEqual(told("let a = record counted 0\nlet a = a"), ())
        self.assertEqual(told("let a = record counted 1\na.0 = a\na.0 = a\nlet a = a.0"), ())

    def test_numbers_are_of_both_homes_together(self):
        machine = Machine()
        machine.told("let a = record counted 0\nlet b = map traced\nlet c = weak traced a")
        self.assertEqual([machine[n][0] for n in (0, 1, 2)], ["counted", "traced", "traced"])
        machine.told("drop a\nlet d = map counted")
        self.assertEqual((machine.present, machine.next_number), ((1, 2, 3), 4))


class TestEndOfCalls(unittest.TestCase):
    def test_order_of_becoming_variables(self):
        text = lines("proc p x y", "let d = record counted 0", "let a = record counted 0",
                     "let c = record counted 0", "end", "do p 1 2")
        self.assertEqual(told(text), (("free", 0), ("free", 1), ("free", 2)))

    def test_assigned_again_keeps_its_order(self):
        text = lines("proc p", "let a = 1", "let b = record counted 0",
                     "let a = record counted 0", "end", "do p")
        self.assertEqual(told(text), (("free", 1), ("free", 0)))

    def test_dropped_ones_begin_anew(self):
        text = lines("proc p", "let a = 1", "let b = record counted 0", "drop a",
                     "let a = record counted 0", "end", "do p")
        self.assertEqual(told(text), (("free", 0), ("free", 1)))

    def test_parameters_first(self):
        text = lines("proc p x y", "let a = record counted 0", "let y = record counted 0",
                     "let x = record counted 0", "end", "do p 1 2")
        self.assertEqual(told(text), (("free", 2), ("free", 1), ("free", 0)))

    def test_each_one_is_a_step(self):
        machine = Machine()
        text = lines("proc p", "let b = record counted 1", "let a = record counted 0", "b.0 = a",
                     "end", "do p")
        self.assertEqual(machine.told(text), (("free", 0), ("free", 1)))
        text = lines("proc q", "let a = record counted 0", "let b = record counted 1", "b.0 = a",
                     "end", "do q")
        self.assertEqual(machine.told(text), (("free", 3), ("free", 2)))

    def test_global_ones_stay(self):
        machine = Machine()
        self.assertEqual(machine.told("proc p\nlet G = record counted 0\nend\ndo p"), ())
        self.assertEqual(machine.present, (0,))


class TestShown(unittest.TestCase):
    def setUp(self):
        self.machine = Machine()
        self.machine.told(lines(
            "let r = record counted 3", "let t = record traced 1", "let m = map counted",
            "let n = map traced", "let w = weak counted r", "let v = weak traced r",
            "r.0 = t", "r.2 = -8", "t.0 = r", "m at n = 4", "m at r = w", "n at m = m",
            "let g = record counted 0", "let u = weak traced g", "drop g", "let K = none",
            "let a = 0"))

    def test_parts(self):
        machine = self.machine
        self.assertEqual(machine[0], ("counted", "record", (("#", 1), None, -8)))
        self.assertEqual(machine[1], ("traced", "record", (("#", 0),)))
        self.assertEqual(machine[2], ("counted", "map", ((0, ("#", 4)), (3, 4))))
        self.assertEqual(machine[3], ("traced", "map", ((2, ("#", 2)),)))
        self.assertEqual(machine[4], ("counted", "weak", (0,)))
        self.assertEqual(machine[5], ("traced", "weak", (0,)))
        self.assertEqual(machine[7], ("traced", "weak", ()))
        self.assertEqual(Machine().told("let r = record counted 0"), ())

    def test_empty_parts(self):
        machine = Machine()
        machine.told("let r = record counted 0\nlet m = map traced")
        self.assertEqual((machine[0], machine[1]),
                         (("counted", "record", ()), ("traced", "map", ())))

    def test_variables(self):
        self.assertEqual(self.machine.variables, (
            ("K", None), ("a", 0), ("m", ("#", 2)), ("n", ("#", 3)), ("r", ("#", 0)),
            ("t", ("#", 1)), ("u", ("#", 7)), ("v", ("#", 5)), ("w", ("#", 4))))

    def test_present(self):
        machine = self.machine
        self.assertEqual(machine.present, (0, 1, 2, 3, 4, 5, 7))
        self.assertEqual(len(machine), 7)
        self.assertEqual([n for n in range(-1, 10) if n in machine], list(machine.present))
        self.assertEqual(machine.next_number, 8)
        self.assertEqual((machine.queue, machine.kept, machine.cycle), ((), (), None))

    def test_counts_ages_proxies_places(self):
        machine = self.machine
        self.assertEqual([machine.count_of(n) for n in (0, 2, 4)], [2, 2, 2])
        self.assertEqual([machine.proxy_of(n) for n in (0, 2, 4)], [0, 0, None])
        self.assertEqual([machine.age_of(n) for n in (1, 3, 5, 7)], [0, 0, 0, 0])
        self.assertEqual([machine.place_of(n) for n in (1, 3, 5, 7)],
                         [(0, 0), (0, 1), (0, 2), (0, 3)])

    def test_no_object(self):
        machine = self.machine
        calls = [lambda value: machine[value], machine.count_of, machine.age_of,
                 machine.proxy_of, machine.place_of]
        for value in ANY + [6, 8, -1]:
            for call in calls:
                self.assertEqual(raised(call, value), ("NoObject", {"value": value}))
            self.assertIs(value in machine, False)
        for number in (1, 3, 5, 7):
            for call in (machine.count_of, machine.proxy_of):
                self.assertEqual(raised(call, number), ("NoObject", {"value": number}))
        for number in (0, 2, 4):
            for call in (machine.age_of, machine.place_of):
                self.assertEqual(raised(call, number), ("NoObject", {"value": number}))

    def test_booleans_are_no_numbers(self):
        machine = self.machine
        self.assertIs(0 in machine, True)
        self.assertIs(False in machine, False)
        self.assertIs(True in machine, False)
        self.assertEqual(raised(lambda: machine[True]), ("NoObject", {"value": True}))

    def test_no_iteration(self):
        for call in (iter, list, tuple, sorted):
            with self.assertRaises(TypeError):
                call(self.machine)

    def test_read_only(self):
        for name in ("present", "variables", "queue", "candidates", "kept", "cycle", "pages",
                     "next_number"):
            with self.assertRaises(AttributeError):
                setattr(self.machine, name, ())

    def test_reach(self):
        machine = Machine()
        machine.told(lines("let a = record counted 1", "let m = map traced", "a.0 = m",
                           "let k = record traced 0", "let v = record counted 0", "m at k = v",
                           "drop v", "drop m"))
        self.assertEqual(machine.reach(), (0, 1, 2, 3))
        machine.told("let w = weak counted k\ndrop k")
        self.assertEqual((machine.reach(), machine.present), ((0, 1, 4), (0, 1, 2, 3, 4)))
        machine.told("let k = get w\npin k\ndrop k")
        self.assertEqual(machine.reach(), (0, 1, 2, 3, 4))
        machine.told("drop a")
        self.assertEqual(machine.reach(), (2, 4))
        machine.told("let k = get w\nhold k\nunpin k\ndrop k\ndrop w")
        self.assertEqual(machine.reach(), (2,))

    def test_reach_of_an_entry_whose_key_is_in_its_value(self):
        machine = Machine()
        machine.told(lines("let m = map traced", "let k = record traced 1", "m at k = k",
                           "m at m = 3", "drop k"))
        self.assertEqual(machine.reach(), (0,))

    def test_reach_of_entries_in_any_order(self):
        machine = Machine()
        machine.told(lines("let m = map traced", "let a = record traced 0",
                           "let b = record traced 0", "let c = record traced 0", "m at b = c",
                           "m at a = b", "drop b", "drop c"))
        self.assertEqual(machine.reach(), (0, 1, 2, 3))
        machine.told("drop a")
        self.assertEqual(machine.reach(), (0,))

    def test_queue_is_a_root(self):
        machine = Machine()
        machine.told("proc bye x\nend\nlet a = record counted 1 then bye\nlet t = map traced\n"
                     "a.0 = t\ndrop t\ndrop a")
        self.assertEqual((machine.queue, machine.reach()), ((0,), (0, 1)))


class TestCopy(unittest.TestCase):
    TEXT = lines("proc bye x", "say x", "let Kept = x", "end", "let a = record counted 2 then bye",
                 "let t = record traced 2 then bye", "a.0 = t", "t.0 = a", "let m = map traced",
                 "m at a = t", "let w = weak counted t", "pin t", "hold m", "minor", "begin",
                 "let b = record counted 1", "b.0 = b", "drop b", "let q = map counted",
                 "let z = record traced 0 then bye", "let y = record counted 0 then bye", "drop y")

    def shown(self, machine):
        return (machine.present, machine.variables, machine.queue, machine.candidates,
                machine.kept, machine.cycle, machine.pages, machine.next_number,
                [machine[number] for number in machine.present], machine.reach())

    def test_same_state(self):
        machine = Machine(young=3, start=9, pace=2, limit=40)
        machine.told(self.TEXT)
        other = machine.copy()
        self.assertIsInstance(other, Machine)
        self.assertEqual(self.shown(machine), self.shown(other))

    def test_goes_on_as_the_machine(self):
        machine = Machine(young=3, start=9, pace=2, limit=12)
        machine.told(self.TEXT)
        other = machine.copy()
        for text in ("drop a\ndrop t\ndrop m", "finalize\nrings 5", "slice 100\nsettle",
                     "repeat 20\nlet x = record traced 1\nx.0 = Kept\nend", "settle"):
            self.assertEqual(ended(machine, text), ended(other, text))
            self.assertEqual(self.shown(machine), self.shown(other))

    def test_in_the_middle_of_a_cycle(self):
        machine = Machine()
        machine.told("let a = map counted\nlet b = map traced\nbegin\nslice 1\nlet c = map traced")
        other = machine.copy()
        self.assertEqual((other.cycle, other.kept), ((2, 1), (0, 1)))
        self.assertEqual(other.told("slice 1"), (("finish",),))
        self.assertEqual(machine.cycle, (2, 1))
        self.assertEqual(other.told("minor\nminor")[-2:], (("move", 2, 1, 1), ("back", 2)))
        machine.told("drop b\nslice 1\nbegin\nslice 9")
        self.assertEqual([page for page, _, _ in machine.copy().pages], [1])
        self.assertEqual(machine.copy().told("let d = map traced"), (("page", 3, "young"),))

    def test_independent(self):
        machine = Machine()
        machine.told(self.TEXT)
        before = self.shown(machine)
        other = machine.copy()
        other.told("let a = 1\nunpin t\ndrop t\nrelease m\ndrop m\nsettle\nproc new\nend")
        self.assertEqual(self.shown(machine), before)
        self.assertEqual(ended(machine, "do new"), ([], "NoProcedure", (0,)))
        third = machine.copy()
        machine.told("drop w\nminor\nminor\nm at a = none\na.1 = 3\nt.1 = 4\nhold a")
        self.assertEqual(self.shown(third), before)

    def test_copy_of_a_copy(self):
        machine = Machine()
        machine.told(self.TEXT)
        self.assertEqual(self.shown(machine.copy().copy()), self.shown(machine))


if __name__ == "__main__":
    unittest.main()
