"""Section 5: the faults, their order, and what stays behind them."""
import unittest

from crossheaps.machine import Machine
from tests.helpers import ended, fault, lines

BEGUN = lines("let n = none", "let i = 5", "let r = record counted 2", "let t = record traced 0",
              "let w = weak counted r", "let m = map traced", "proc p", "end", "proc q x", "end")
ROWS = len(BEGUN.split("\n"))

# For each row the first word that applies, with the names of BEGUN; u and v are no variables.
WORDS = {
    "let x = u": "unset", "let x = u.0": "unset", "let x = get u": "unset",
    "let x = u at r": "unset", "let x = m at u": "unset", "let x = weak counted u": "unset",
    "r.0 = u": "unset", "u.0 = 1": "unset", "u at r = 1": "unset", "m at u = 1": "unset",
    "m at r = u": "unset", "drop u": "unset", "hold u": "unset", "release u": "unset",
    "pin u": "unset", "unpin u": "unset", "say u": "unset", "say u.0": "unset",
    "say get u": "unset", "say u at r": "unset", "say m at u": "unset",
    "if u is 1\nend": "unset", "if 1 is u\nend": "unset", "do q u": "unset",
    "let x = n.0": "object", "let x = i.0": "object", "let x = get n": "object",
    "let x = get i": "object", "let x = i at r": "object", "let x = m at n": "object",
    "let x = weak traced n": "object", "let x = weak counted i": "object",
    "n.0 = 1": "object", "i.0 = 1": "object", "n at r = 1": "object", "m at i = 1": "object",
    "m at n = none": "object", "hold n": "object", "hold i": "object", "release n": "object",
    "release i": "object", "pin n": "object", "pin i": "object", "unpin i": "object",
    "unpin n": "object", "say n.0": "object", "say get i": "object", "say n at r": "object",
    "say m at i": "object",
    "let x = w.0": "sort", "let x = m.0": "sort", "let x = get r": "sort",
    "let x = get m": "sort", "let x = r at r": "sort", "let x = w at r": "sort",
    "w.0 = 1": "sort", "m.5 = 1": "sort", "r at m = 1": "sort", "w at m = 1": "sort",
    "r at m = none": "sort", "say w.0": "sort", "say m.0": "sort", "say get t": "sort",
    "say t at m": "sort", "say w at w": "sort",
    "let x = r.2": "slot", "let x = t.0": "slot", "r.2 = 1": "slot", "r.5 = none": "slot",
    "t.0 = t": "slot", "say r.2": "slot", "say t.5": "slot",
    "release r": "held", "unpin r": "held", "release t": "held", "unpin m": "held",
    "hold r\nunpin r": "held", "pin r\nrelease r": "held", "hold r\nrelease r\nrelease r": "held",
    "pin w\nunpin w\nunpin w": "held",
    # Two at once: the earlier word goes ahead, whatever name it is about.
    "u.0 = v": "unset", "i.0 = u": "unset", "n.0 = u": "unset", "w.0 = u": "unset",
    "r.5 = u": "unset", "i at u = 1": "unset", "r at u = 1": "unset", "m at i = u": "unset",
    "r at i = u": "unset", "let x = i at u": "unset", "say r at u": "unset", "do q v": "unset",
    "r at i = 1": "object", "w at n = 1": "object", "let x = r at i": "object",
    "say w at n": "object", "i.5 = 1": "object",
    "w.5 = 1": "sort", "say m.5": "sort", "let x = w.3": "sort",
}

# Rows that can be done, beside those above.
DONE = ["let x = r.1", "r.1 = n", "r.0 = i", "m at r = n", "m at w = i", "let x = m at t",
        "let x = weak traced w", "say get w", "let x = get w", "drop n", "drop i", "do p",
        "do q i", "if n is i\nend", "hold t\nrelease t", "pin r\nunpin r", "say n",
        "hold r\nhold r\nrelease r\nrelease r"]


class TestWords(unittest.TestCase):
    def test_each(self):
        for row, word in WORDS.items():
            last = ROWS + len(row.split("\n")) - 1
            if row.startswith("if"):
                last -= 1
            with self.subTest(row=row):
                self.assertEqual(fault(BEGUN + "\n" + row), (word, last))

    def test_done(self):
        for row in DONE:
            with self.subTest(row=row):
                self.assertIsNone(fault(BEGUN + "\n" + row))

    def test_in_calls(self):
        for row, word in WORDS.items():
            row = row.replace("x", "z")
            names = "r t w m".split()
            again = [f"let {name} = {name.upper()}" for name in names]
            text = lines(BEGUN, *[f"let {name.upper()} = {name}" for name in names],
                         "proc s", "let n = none", "let i = 5", *again, row, "end", "do s")
            self.assertEqual(fault(text)[0], word, row)

    def test_slots_of_each_size(self):
        for size in range(7):
            for slot in range(6):
                text = f"let r = record traced {size}\nr.{slot} = r\nsay r.{slot}"
                self.assertEqual(fault(text), None if slot < size else ("slot", 1))


class TestRowNumbers(unittest.TestCase):
    def test_in_blocks_and_calls(self):
        self.assertEqual(fault("repeat 2\nif 1 is 1\nsay 1\nsay u\nend\nend"), ("unset", 3))
        self.assertEqual(fault("proc p\nsay 1\nsay u\nend\nsay 2\ndo p"), ("unset", 2))
        self.assertEqual(fault("do p\nproc p\nif 1 is 2\nelse\ndo q\nend\nend\nproc q\nrepeat 2\n"
                               "drop u\nend\nend"), ("unset", 9))

    def test_of_the_script_of_the_procedure(self):
        machine = Machine()
        machine.told("let a = 1\nproc p x\nsay x\nsay u\nend\nlet b = 2")
        self.assertEqual(fault("do p 1", machine), ("unset", 3))
        machine.told("say 1\nsay 2\nlet r = record counted 0 then p\ndrop r")
        self.assertEqual(fault("finalize", machine), ("unset", 3))

    def test_behind_a_call(self):
        self.assertEqual(fault("proc p\nsay 1\nend\ndo p\nsay 5\nsay u"), ("unset", 5))


class TestLong(unittest.TestCase):
    def test_bound(self):
        self.assertIsNone(fault("\n".join(["say 1"] * 10000)))
        self.assertEqual(fault("\n".join(["say 1"] * 10001)), ("long", 10000))

    def test_repeat_counts_once_each_time(self):
        self.assertIsNone(fault("repeat 9999\nsay 1\nend"))
        self.assertEqual(fault("repeat 10000\nsay 1\nend"), ("long", 1))
        self.assertIsNone(fault("repeat 3333\nrepeat 1\nsay 1\nend\nsay 1\nend"))
        self.assertEqual(fault("say 1\nrepeat 3333\nrepeat 1\nsay 1\nend\nsay 1\nend"),
                         ("long", 5))
        self.assertEqual(fault("repeat 10000\nrepeat 0\nsay 1\nend\nend"), ("long", 1))
        self.assertIsNone(fault("repeat 9999\nrepeat 0\nsay 1\nend\nend"))

    def test_events_ahead_of_it(self):
        events, _, values = ended(Machine(), "repeat 10000\nsay 1\nend")
        self.assertEqual((len(events), values), (9999, ("long", 1)))

    def test_what_does_not_count(self):
        rows = ["proc p", "end", "repeat 3333", "if 1 is 1", "else", "end", "let x = 1", "drop x",
                "let x = 1", "drop x", "end"]
        self.assertIsNone(fault(lines(*rows)))
        self.assertEqual(fault(lines("if 1 is 2", "else", "end", *rows)), ("long", 11))

    def test_a_closed_arm_does_not_count(self):
        text = lines("repeat 4999", "if 1 is 2", "say 1", "say 2", "end", "end",
                     "repeat 4999", "if 1 is 1", "else", "say 1", "end", "end")
        self.assertIsNone(fault(text))
        self.assertEqual(fault(text + "\nsay 2"), ("long", 12))

    def test_all_calls_together(self):
        text = "proc p\nsay 1\nsay 2\nend\nrepeat 3333\ndo p\nend"
        self.assertIsNone(fault(text))
        self.assertEqual(fault(text + "\nsay 1"), ("long", 7))
        self.assertEqual(fault("say 1\n" + text), ("long", 3))

    def test_closing_calls_too(self):
        text = lines("proc bye x", "repeat 4998", "say 1", "say 2", "end", "end",
                     "let a = record counted 0 then bye", "drop a", "finalize")
        self.assertIsNone(fault(text.replace("4998", "4997") + "\nsay 1\nsay 1\nsay 1"))
        self.assertEqual(fault(text.replace("4998", "4997") + "\nsay 1\nsay 1\nsay 1\nsay 1"),
                         ("long", 12))
        self.assertEqual(fault(text.replace("4998", "4999")), ("long", 3))

    def test_each_script_by_itself(self):
        machine = Machine()
        for _ in range(3):
            self.assertIsNone(fault("repeat 9999\nsay 1\nend", machine))

    def test_empty_body(self):
        self.assertEqual(fault("repeat 10000\nrepeat 10000\nend\nend"), ("long", 1))
        self.assertIsNone(fault("repeat 9999\nrepeat 10000\nend\nend"))


def ladder(depth, *rows):
    """Procedures that call each other so deep, the last one does the rows; ends with a call."""
    names = ["p" + "abcdefghijklmnopqrstuvwxyz"[k] for k in range(depth)]
    text = []
    for at, name in enumerate(names):
        inner = [f"do {names[at + 1]}"] if at + 1 < depth else list(rows)
        text += [f"proc {name}"] + inner + ["end"]
    return text + ["do pa"]


class TestDeep(unittest.TestCase):
    def test_bound(self):
        self.assertIsNone(fault(lines(*ladder(24, "say 1"))))
        self.assertEqual(fault(lines(*ladder(25, "say 1"))), ("deep", 23 * 3 + 1))

    def test_recursion(self):
        events, _, values = ended(Machine(), "proc p\nsay 1\ndo p\nend\ndo p")
        self.assertEqual((len(events), values), (24, ("deep", 2)))

    def test_ahead_of_unset(self):
        self.assertEqual(fault(lines("proc q x", "end", *ladder(24, "do q u"))),
                         ("deep", 2 + 23 * 3 + 1))
        self.assertEqual(fault(lines("proc q x", "end", *ladder(23, "do q u"))),
                         ("unset", 2 + 22 * 3 + 1))

    def test_behind_long(self):
        rows = ladder(24, "repeat 9974", "say 1", "end", "say 1", "do pa")
        self.assertEqual(fault(lines(*rows)), ("long", 23 * 3 + 5))
        rows = ladder(24, "repeat 9974", "say 1", "end", "do pa")
        self.assertEqual(fault(lines(*rows)), ("deep", 23 * 3 + 4))

    CLOSING = ("proc bye x", "say x", "end", "let r = record counted 0 then bye", "drop r")

    def test_finalize(self):
        at = 5 + 23 * 3 + 1
        machine = Machine()
        found = ended(machine, lines(*self.CLOSING, *ladder(24, "finalize")))
        self.assertEqual(found, ([("queue", 0)], "Fault", ("deep", at)))
        self.assertEqual((machine.queue, machine.count_of(0)), ((0,), 1))
        self.assertEqual(machine.told("finalize"), (("close", 0), ("say", "#0"), ("free", 0)))
        self.assertIsNone(fault(lines(*self.CLOSING, *ladder(23, "finalize"))))

    def test_finalize_without_a_queue(self):
        self.assertIsNone(fault(lines(*ladder(24, "finalize", "settle"))))

    def test_settle(self):
        at = 5 + 23 * 3 + 1
        machine = Machine()
        found = ended(machine, lines(*self.CLOSING, *ladder(24, "settle")))
        self.assertEqual(found, ([("queue", 0)], "Fault", ("deep", at)))
        self.assertEqual(machine.queue, (0,))

    def test_settle_that_queues(self):
        text = lines("proc bye x", "say x", "end", "let t = record traced 0 then bye", "drop t",
                     *ladder(24, "settle"))
        found = ended(Machine(), text)
        self.assertEqual(found, ([("page", 0, "young"), ("minor",), ("queue", 0), ("old", 0),
                                  ("page", 1, "old"), ("move", 0, 1, 0), ("back", 0), ("begin",),
                                  ("finish",)], "Fault", ("deep", 5 + 23 * 3 + 1)))

    def test_creation(self):
        machine = Machine(limit=1)
        text = lines(*self.CLOSING, *ladder(24, "let x = record counted 0"))
        found = ended(machine, text)
        self.assertEqual(found, ([("queue", 0)], "Fault", ("deep", 5 + 23 * 3 + 1)))
        self.assertEqual((machine.present, machine.queue, machine.next_number), ((0,), (0,), 1))
        machine = Machine(limit=1)
        text = lines(*self.CLOSING, *ladder(23, "let x = record counted 0"))
        self.assertIsNone(fault(text, machine))

    def test_closing_calls_count(self):
        text = lines("proc bye x", "let y = record counted 0 then bye", "drop y", "finalize",
                     "end", "let a = record counted 0 then bye", "drop a", "finalize")
        machine = Machine()
        events, _, values = ended(machine, text)
        self.assertEqual(values, ("deep", 3))
        self.assertEqual([event for event in events if event[0] == "close"],
                         [("close", number) for number in range(24)])
        self.assertEqual(machine.queue, (24,))


class TestPolicyAndFaults(unittest.TestCase):
    def test_ahead_of_the_policy(self):
        for row, word in (("let w = weak traced u", "unset"), ("let w = weak traced i", "object"),
                          ("let w = weak counted u", "unset")):
            machine = Machine(young=1, start=1, pace=1, limit=1)
            machine.told("let t = map traced\nlet i = 1")
            self.assertEqual(ended(machine, row), ([], "Fault", (word, 0)))

    def test_long_ahead_of_the_policy(self):
        machine = Machine(limit=1)
        machine.told("let t = map traced")
        events, _, values = ended(machine, "repeat 9999\nsay 1\nend\nlet m = map traced")
        self.assertEqual((values, events[-1]), (("long", 3), ("say", "1")))

    def test_full(self):
        machine = Machine(limit=2)
        machine.told("let a = record counted 0\nlet b = record counted 0")
        found = ended(machine, "say 1\nlet c = record counted 0")
        self.assertEqual(found, ([("say", "1"), ("minor",), ("begin",), ("finish",)], "Fault",
                                 ("full", 1)))
        self.assertEqual((machine.present, machine.next_number), ((0, 1), 2))
        self.assertEqual(machine.variables, (("a", ("#", 0)), ("b", ("#", 1))))
        self.assertEqual(machine.told("drop a\nlet c = record counted 0"), (("free", 0),))

    TARGET = lines("proc bye x", "%s", "end", "let G = record counted 1",
                   "let r = record counted 0 then bye", "drop r")

    def test_target_looked_at_again(self):
        text = self.TARGET.replace("%s", "drop G")
        found = ended(Machine(limit=2), text + "\nlet w = weak counted G")
        self.assertEqual(found[1:], ("Fault", ("unset", 6)))
        self.assertEqual(found[0], [("queue", 1), ("close", 1), ("free", 0), ("free", 1),
                                    ("minor",), ("begin",), ("finish",), ("minor",), ("begin",),
                                    ("finish",)])
        text = self.TARGET.replace("%s", "let G = 3")
        self.assertEqual(fault(text + "\nlet w = weak counted G", Machine(limit=2)),
                         ("object", 6))

    def test_full_ahead_of_the_second_look(self):
        text = self.TARGET.replace("%s", "drop G") + "\nlet w = weak counted G"
        text = text.replace("drop r", "let b = record counted 0\ndrop r").replace("drop G", lines(
            "let H = G", "drop G"))
        self.assertEqual(fault(text, Machine(limit=2)), ("full", 6))

    def test_the_object_that_the_variable_holds_then(self):
        machine = Machine(limit=2)
        text = self.TARGET.replace("%s", "let H = map counted\nlet G = H\nlet H = none")
        self.assertIsNone(fault(text + "\nlet w = weak counted G", machine))
        self.assertEqual(machine[3], ("counted", "weak", (2,)))


class TestBehindAFault(unittest.TestCase):
    def test_what_was_done_stays(self):
        machine = Machine()
        found = ended(machine, "let a = 1\nlet r = record counted 1\nr.0 = r\nhold r\nsay u")
        self.assertEqual(found, ([], "Fault", ("unset", 4)))
        self.assertEqual(machine.variables, (("a", 1), ("r", ("#", 0))))
        self.assertEqual(machine.count_of(0), 3)
        self.assertEqual(machine.told("say a"), (("say", "1"),))

    def test_calls_end_inner_ones_first(self):
        text = lines("proc p", "let b = record counted 0", "let a = record counted 0", "do q",
                     "end", "proc q", "let d = record counted 0", "let c = record counted 0",
                     "say u", "end", "let e = record counted 0", "do p")
        machine = Machine()
        found = ended(machine, text)
        self.assertEqual(found, ([("free", 3), ("free", 4), ("free", 1), ("free", 2)], "Fault",
                                 ("unset", 8)))
        self.assertEqual(machine.variables, (("e", ("#", 0)),))
        self.assertEqual(ended(machine, "say b"), ([], "Fault", ("unset", 0)))

    def test_dropping_is_done_in_steps(self):
        text = lines("proc bye x", "end", "proc p x", "let y = record counted 1 then bye",
                     "x.0 = y", "let z = y", "say u", "end", "let r = record counted 1", "do p r")
        machine = Machine()
        self.assertEqual(ended(machine, text), ([], "Fault", ("unset", 6)))
        self.assertEqual((machine.count_of(0), machine.count_of(1)), (1, 1))
        self.assertEqual(machine.candidates, (0, 1))
        self.assertEqual(machine.told("drop r"), (("free", 0), ("queue", 1)))

    def test_in_a_closing_call(self):
        text = lines("proc bye x", "let y = record counted 0", "say u", "end",
                     "let a = record counted 0 then bye", "drop a", "finalize")
        machine = Machine()
        self.assertEqual(ended(machine, text), ([("queue", 0), ("close", 0), ("free", 0),
                                                 ("free", 1)], "Fault", ("unset", 2)))
        self.assertEqual((machine.queue, machine.present), ((), ()))

    def test_in_a_settle(self):
        text = lines("proc bye x", "say u", "end", "let a = record counted 0 then bye",
                     "let b = record counted 0 then bye", "drop a", "drop b", "settle")
        machine = Machine(start=1)
        found = ended(machine, text)
        self.assertEqual(found[1:], ("Fault", ("unset", 1)))
        self.assertEqual(machine.queue, (1,))
        self.assertEqual(fault("let r = record counted 0\nlet s = record counted 0", machine), None)
        self.assertNotEqual(machine.cycle, None)

    def test_globals_stay(self):
        machine = Machine()
        ended(machine, "proc p\nlet G = record counted 0\nlet h = G\nsay u\nend\ndo p")
        self.assertEqual(machine.variables, (("G", ("#", 0)),))
        self.assertEqual(machine.candidates, (0,))

    def test_a_statement_with_a_fault_does_nothing(self):
        machine = Machine()
        machine.told("let r = record counted 2\nlet m = map traced\nr.0 = 1\nm at r = 2")
        for row in ("r.0 = u", "r.2 = m", "m at u = 1", "let x = r.4", "let r = u", "do q r u",
                    "let m = get r", "let w = weak traced u"):
            before = (machine.variables, machine[0], machine[1], machine.count_of(0))
            ended(machine, "proc q a b\nlet H = a\nend\n" + row if row.startswith("do") else row)
            self.assertEqual((machine.variables, machine[0], machine[1], machine.count_of(0)),
                             before)
        self.assertEqual(machine.next_number, 2)


if __name__ == "__main__":
    unittest.main()
