"""Section 18: saving and resuming."""
import random
import unittest

from crossheaps.machine import Machine
from crossheaps.snapshots import snapshot
from crossheaps.states import resume, save
from tests.compare import shown
from tests.helpers import ANY, ended, lines, raised
from tests.makers import CLOSING, RowMaker, begun, block_script, policy_of
from tests.test_random import row_of

FULL = lines(
    "let z = 1", "proc bye x", "let y = record counted 1", "say x", "y.0 = x", "if x is none",
    "do other x 1", "else", "repeat 2", "say y.0", "end", "end", "end",
    "let a = record counted 3 then bye", "let b = record traced 2 then bye", "b.0 = a", "b.1 = -7",
    "a.1 = b", "let m = map counted", "m at a = 5", "m at b = m", "m at m = a",
    "let w = weak traced b", "let v = weak counted a", "let Glob = none", "let n = -1000000000",
    "minor", "let c = record counted 0 then bye", "drop c", "finalize",
    "let d = record counted 0 then bye", "drop d", "pin a", "pin a", "hold b", "hold b", "hold a",
    "release a", "let e = a", "drop e", "begin", "slice 1", "let f = map traced",
    "let g = record traced 0", "drop g", "proc other p q", "say q", "missing.0 = p", "end")


def full(**policy):
    machine = Machine(**policy)
    machine.told(FULL)
    return machine


def both(machine, other, text):
    """What a script gives on a machine and on another one."""
    return ended(machine, text), ended(other, text)


class TestSave(unittest.TestCase):
    def test_text(self):
        for machine in (Machine(), full(), full(young=5, limit=100)):
            self.assertIs(type(save(machine)), str)
            before = shown(machine)
            self.assertEqual(save(machine=machine), save(machine))
            self.assertEqual(shown(machine), before)
            self.assertEqual(save(machine.copy()), save(machine))
            self.assertEqual(save(resume(save(machine))), save(machine))
            self.assertEqual(save(resume(text=save(machine))), save(machine))

    def test_machines_that_did_the_same(self):
        for seed in range(40):
            source = random.Random(seed)
            policy = policy_of(source) if seed % 2 else {}
            machine = Machine(**policy)
            rows = []
            maker = RowMaker(source, CLOSING + ["calm", "fail"])
            row = begun()
            for _ in range(60):
                ended(machine, row)
                rows.append(row)
                row = row_of(maker, machine)
            other = Machine(**policy)
            for at, row in enumerate(rows):
                ended(other, row)
                if at % 20 == 7:
                    other = resume(save(other))
                if at % 20 == 14:
                    other = other.copy()
            self.assertEqual(save(other), save(machine), seed)

    def test_the_same_state_in_another_way(self):
        # What was there, but is no more, is in no text; neither is the order of names.
        one, other = Machine(), Machine()
        one.told("let a = 1\nlet b = none\nlet c = 5\ndrop c")
        other.told("let b = 7\nlet a = 1\nlet b = none\nsay 3")
        self.assertEqual(save(one), save(other))
        start = "let a = map counted\nlet b = record counted 1"
        one.told(start + "\na at a = 1\na at b = 2\nb.0 = 5")
        other.told(start + "\na at b = 2\nb.0 = a\na at a = 1\nb.0 = 5\npin b\nunpin b")
        self.assertEqual([one.candidates, other.candidates], [(), (0, 1)])
        self.assertNotEqual(save(one), save(other))
        one.told("rings 9")
        other.told("rings 9")
        self.assertEqual(save(one), save(other))
        one.told("proc p\nend\nproc q\nend\nlet z = 1")
        other.told("let z = 1")
        self.assertNotEqual(save(one), save(other))

    def test_each_part_of_a_state(self):
        """States that differ in one thing alone have different texts."""
        texts = [FULL, FULL + "\nslice 1", FULL + "\nfinalize", FULL + "\nhold a", FULL + "\npin a",
                 FULL + "\nunpin a", FULL + "\nrelease b", FULL + "\nhold f", FULL + "\nlet x = 0",
                 FULL + "\nlet x = none", FULL + "\nb.1 = 7", FULL + "\nb.1 = none",
                 FULL + "\nm at a = 4", FULL + "\nm at b = 4", FULL + "\nm at a = none",
                 FULL + "\nlet f = 1", FULL + "\nrings 1", FULL + "\nminor",
                 FULL + "\nslice 1000", FULL + "\nb.0 = f", FULL + "\nproc third\nend",
                 FULL + "\nproc third\nsay 1\nend", FULL + "\nsay 1\nproc third\nend",
                 FULL + "\nproc third x\nend", FULL + "\nlet a = 1", FULL + "\nlet w = 1",
                 FULL + "\nlet h = record counted 0", FULL + "\nlet h = record counted 1",
                 FULL + "\nlet h = record traced 0", FULL + "\nlet h = record counted 0 then bye",
                 FULL + "\nlet h = weak counted a", FULL + "\nlet h = weak counted b",
                 FULL + "\nlet h = record counted 0\ndrop h", FULL.replace("-7", "8"),
                 FULL + "\nlet h = record counted 0\nf at a = h\nf at a = none"]
        found = {}
        for text in texts:
            machine = Machine()
            machine.told(text)
            self.assertFalse(save(machine) in found, (text, found.get(save(machine))))
            found[save(machine)] = text
        policies = [{}, {"young": 1}, {"start": 1}, {"pace": 1}, {"limit": 1}, {"young": 2}]
        self.assertEqual(len({save(Machine(**policy)) for policy in policies}), len(policies))


class TestResume(unittest.TestCase):
    def test_any_value(self):
        for value in ANY + ["\n", " ", FULL, "say 1", "policy", save(Machine()).encode()]:
            if not isinstance(value, bytes):
                self.assertEqual(raised(resume, value), ("BadText", {"row": 0}), value)

    def test_everything_is_there(self):
        for policy in ({}, {"young": 3, "start": 20, "pace": 2, "limit": 100}):
            machine = full(**policy)
            other = resume(save(machine))
            self.assertEqual(shown(other), shown(machine))
            self.assertEqual(snapshot(other), snapshot(machine))
            self.assertEqual([other.cycle, other.cycle[0]], [machine.cycle, 8])
            self.assertEqual([other.queue, other.proxy_of(0)], [machine.queue, machine.proxy_of(0)])
            self.assertIsNotNone(other.proxy_of(0))
            self.assertGreater(len(other.candidates), 0)
            self.assertEqual(other.policy, machine.policy)
            for text in ("say get w", "unpin a", "unpin a", "unpin a", "release b", "release b",
                         "release b", "slice 1", "finalize", "do other 1 2", "do bye none",
                         "let h = record counted 0 then bye\ndrop h\nfinalize", "settle",
                         "drop a\ndrop m", "say get v", "settle", "let T = map traced"):
                given, wanted = both(other, machine, text)
                self.assertEqual(given, wanted, text)
                self.assertEqual(shown(other), shown(machine))
                self.assertEqual(save(other), save(machine))

    def test_rows_of_faults_in_procedures(self):
        machine = Machine()
        machine.told("let a = 1\nsay a\nproc p x\nsay x\nsay none\nrepeat 2\nsay gone\nend\nend\n"
                     "proc close x\nx.0 = x\nend")
        machine.told("proc q y\nif y is 1\ndo p y\nelse\nsay lost\nend\nend")
        other = resume(save(machine))
        third = resume(save(resume(save(other.copy()))))
        for text, row in (("do p 1", 6), ("do q 1", 6), ("say 1\ndo q 2", 4), ("say gone", 0),
                          ("let b = record counted 0 then close\ndrop b\nfinalize", 10),
                          ("repeat 3\ndo q 5\nend", 4), ("do p a\nsay 1", 6)):
            for one in (machine, other, third):
                found = ended(one.copy(), text)
                self.assertEqual(found[1], "Fault")
                self.assertEqual(found[2][1], row, text)
        self.assertEqual(raised(other.told, "proc p\nend"), ("Twice", {"row": 0}))
        self.assertEqual(raised(other.told, "say 1\ndo q"), ("WrongCount", {"row": 1}))
        self.assertIsNone(raised(other.told, "proc r\ndo q 1\nend"))

    def test_independent(self):
        machine = full()
        text = save(machine)
        other = resume(text)
        other.told("drop a\ndrop m\ndrop w\nfinalize\nsettle\nlet k = record traced 2")
        self.assertEqual(save(machine), text)
        third = resume(text)
        machine.told("drop a\nsettle")
        self.assertEqual(save(third), text)

    def test_empty_machines(self):
        self.assertEqual(shown(resume(save(Machine()))), shown(Machine()))
        machine = Machine(limit=1)
        other = resume(save(machine))
        self.assertEqual(both(machine, other, "let a = map counted\nlet b = map counted")[1][1:],
                         ("Fault", ("full", 1)))
        # A cycle that began without objects.
        machine.told("settle\nbegin")
        other = resume(save(Machine()))
        other.told("begin")
        self.assertEqual([other.cycle, resume(save(other)).cycle], [(0, 0), (0, 0)])

    def test_greatest_and_least(self):
        machine = Machine()
        machine.told("let a = record counted 6\nlet b = record traced 6\nlet c = record counted 0\n"
                     "b.5 = 1000000000\na.5 = b\na.0 = -1000000000\nlet abcdefgh = none\n"
                     "let Abcdefgh = 0\nproc only a b c d\nsay d\nend")
        other = resume(save(machine))
        self.assertEqual(shown(other), shown(machine))
        self.assertEqual(save(other), save(machine))
        self.assertEqual(both(other, machine, "b.5 = a\ndo only a b c 5\nsay b.5\nsay a.0")[0][0],
                         [("say", "5"), ("say", "#0"), ("say", "-1000000000")])

    def test_done_above_the_kept_ones(self):
        machine = Machine()
        machine.told("let a = map counted\nlet b = map counted\nlet c = map counted\nbegin\nslice 2\n"
                     "drop a\ndrop b")
        self.assertEqual([machine.cycle, machine.kept], [(3, 2), (2,)])
        other = resume(save(machine))
        self.assertEqual(both(machine, other, "slice 0")[0][0], [("finish",)])
        self.assertEqual(save(other), save(machine))


class TestGoOn(unittest.TestCase):
    """Guarantee (h)."""

    def check(self, seed, rows):
        source = random.Random(seed)
        policy = policy_of(source) if seed % 2 else {}
        weights = {word: source.choice([0.3, 1, 3]) for word in ("rings", "begin", "minor", "slice")}
        weights.update({"pin": 2, "hold": 2, "finalize": 1})
        machine = Machine(**policy)
        machine.told(begun())
        maker = RowMaker(source, CLOSING + ["calm", "fail"], weights)
        others = [resume(save(machine)), machine.copy()]
        told = 0
        for at in range(rows):
            text = row_of(maker, machine)
            found = ended(machine, text)
            told += len(found[0])
            state = shown(machine)
            saved = save(machine)
            for other in others:
                self.assertEqual(ended(other, text), found, (seed, text))
                self.assertEqual(shown(other), state, (seed, text))
                self.assertEqual(save(other), saved, (seed, text))
            if at % 10 == 3:
                others[0] = resume(saved)
            if at == rows // 2:
                others.append(resume(saved))
                others.append(resume(saved).copy())
        return told, machine

    def test_beside_the_machine_and_copies(self):
        told = 0
        for seed in range(120):
            told += self.check(seed, 60)[0]
        self.assertGreater(told, 3000)

    def test_each_moment(self):
        """Resumed behind each row, and then left alone with the rest of the rows."""
        seen = {"cycle": 0, "queue": 0, "proxy": 0, "candidates": 0}
        for seed in range(24):
            source = random.Random(4000 + seed)
            scout = Machine(**policy_of(source))
            first = save(scout)
            maker = RowMaker(source, CLOSING, {"begin": 5, "slice": 2, "finalize": 0.5})
            rows = [begun()]
            for _ in range(36):
                ended(scout, rows[-1])
                rows.append(row_of(maker, scout))
            ended(scout, rows[-1])
            machine = resume(first)
            for at, row in enumerate(rows):
                ended(machine, row)
                seen["cycle"] += machine.cycle is not None
                seen["queue"] += len(machine.queue) > 0
                seen["candidates"] += len(machine.candidates) > 0
                seen["proxy"] += any(machine[n][0] == "counted" and machine.proxy_of(n) is not None
                                     for n in machine.present)
                other = resume(save(machine))
                for later in rows[at + 1:]:
                    ended(other, later)
                self.assertEqual(save(other), save(scout), (seed, at))
                self.assertEqual(shown(other), shown(scout), (seed, at))
            self.assertEqual(save(machine), save(scout))
        self.assertTrue(all(many > 100 for many in seen.values()), seen)

    def test_blocks_and_calls(self):
        failed = 0
        for seed in range(40):
            source = random.Random(seed)
            machine = Machine(**(policy_of(source) if seed % 2 else {}))
            machine.told("let x = 1\nlet y = record counted 2\nlet a = record traced 2\n"
                         "let Hat = none\nlet b = weak counted a")
            for letter in "qrs":
                text = block_script(source, 9)
                for name in ("pone", "ptwo", "pthree"):
                    text = text.replace(name, name + letter)
                ended(machine, text)
                other = resume(save(machine))
                for further in (f"do pone{letter}", f"do ptwo{letter} 1", f"do pthree{letter} y x",
                                "finalize", f"let k = record counted 0 then ptwo{letter}\ndrop k",
                                "settle"):
                    given, wanted = both(other, machine, further)
                    failed += given[1] is not None
                    self.assertEqual(given, wanted, (seed, further))
                self.assertEqual(save(other), save(machine), seed)
        self.assertGreater(failed, 100)


class TestOtherTexts(unittest.TestCase):
    """A text that is nearly a saved one is wrong, or it is that of another state."""

    def changed(self, random, text):
        rows = text.split("\n")
        one, other = random.randrange(len(rows)), random.randrange(len(rows))
        kind = random.randrange(6)
        if kind == 0:
            at = random.randrange(len(text))
            return text[:at] + random.choice("0123456789 #\n-abn:") + text[at + 1:]
        if kind == 1:
            at = random.randrange(len(text))
            return text[:at] + text[at + 1:]
        if kind == 2:
            return "\n".join(rows[:one] + rows[one + 1:])
        if kind == 3:
            return "\n".join(rows[:one] + [rows[other]] + rows[one:])
        if kind == 4:
            words = rows[one].split(" ")
            words[random.randrange(len(words))] = random.choice(
                ["none", "0", "1", "2", "3", "#0", "#1", "-1", "5:#1", "traced", "counted", "record",
                 "weak", "map", "queued", "new", "999", "old", "young", "bye", "9" * 40, "x", ""])
            rows[one] = " ".join(words)
            return "\n".join(rows)
        rows[one], rows[other] = rows[other], rows[one]
        return "\n".join(rows)

    def test_changed(self):
        good = 0
        bad = 0
        for seed in range(60):
            source = random.Random(seed)
            machine = Machine(**(policy_of(source) if seed % 2 else {}))
            machine.told(begun())
            maker = RowMaker(source, CLOSING, {"begin": 4, "slice": 2})
            for _ in range(50):
                ended(machine, row_of(maker, machine))
            for _ in range(60):
                text = self.changed(source, save(machine))
                error = raised(resume, text)
                if error is not None:
                    bad += 1
                    self.assertEqual(error, ("BadText", {"row": 0}))
                    continue
                other = resume(text)
                self.assertEqual(save(other), text)
                good += text != save(machine)
                for _ in range(5):
                    ended(other, row_of(maker, other))
                ended(other, "settle")
                self.assertLessEqual(set(other.reach()), set(other.present))
        self.assertGreater(good, 100)
        self.assertGreater(bad, 1000)

    def test_what_no_run_can_leave(self):
        """Each change of a row makes a text of which no machine can be."""
        text = save(full())
        changes = [
            ("policy none", "policy 0"), ("policy none", "policy 10001"), ("policy none", "policy -1"),
            ("policy none none", "policy none"), ("next 10 ", "next 9 "), ("next 10 3", "next 10 2"),
            ("queue 7", "queue 7 7"), ("queue 7", "queue 6"), ("queue 7", "queue 0"),
            ("queue 7", "queue"), ("candidates 0", "candidates 0 0"),
            ("candidates 0", "candidates 1"), ("candidates 0", "candidates 99"),
            ("cycle 8 1", "cycle 90 1"), ("cycle 8 1", "cycle 8 8"), ("cycle 8 1 0", "cycle 8 1"),
            ("cycle 8 1", "cycle 7 1"), ("4 7\n", "4 7 8\n"), ("4 7\n", "4 7 99\n"),
            ("4 7\n", "7 4\n"), ("cycle 8 1 0 1 2 3 4 7", "cycle 8"), ("let a #0", "let a #99"),
            ("let a #0", "let Aa #0"), ("let a #0", "let none #0"), ("let a #0", "let a a"),
            ("let a #0", "let a"), ("let n -1000000000", "let n -1000000001"), ("let n -1", "let n -01"),
            ("object 1 traced record 0 2 2", "object 1 traced record 0 2 none"),
            ("object 1 traced record 0 2 2", "object 1 traced record 0 2 3"),
            ("object 1 traced record 0 2 2", "object 1 traced record 0 2 0"),
            ("object 1 traced record 0 2 2 bye new", "object 1 traced record 0 2 2 other new"),
            ("object 1 traced record 0 2 2 bye new", "object 1 traced record 0 2 2 gone new"),
            ("object 1 traced record 0 2 2 bye new", "object 1 traced record 0 2 2 none queued"),
            ("object 1 traced record 0 2 2 bye new", "object 1 traced record 0 2 2 bye done"),
            ("object 1 traced", "object 1 counted"), ("object 1 traced", "object 1 old"),
            ("object 1 traced record", "object 1 traced list"), ("object 0 counted record 2 0 2",
                                                                "object 0 counted record 2 0 none"),
            ("object 7 counted record 0 0 none bye queued", "object 7 counted record 0 0 none bye new"),
            ("bye new #0 -7", "bye new #0 -7 none none none none none"), ("0:5", "0:none"),
            ("0:5", "99:5"), ("0:5", "0:#99"), ("0:5", "0:5 0:5"), ("0:5", "0"), ("1:#2", "0:#2"),
            ("object 3 traced weak 0 0 2 1", "object 3 traced weak 0 0 2 99"),
            ("object 3 traced weak 0 0 2 1", "object 3 traced weak 0 0 2"),
            ("object 3 traced weak 0 0 2 1", "object 3 traced weak 0 0 2 1 1"),
            ("page 1 old 1", "page 1 old none"), ("page 1 old 1", "page 1 older 1"),
            ("page 1 old 1", "page 1 old 0"), ("page 1 old 1", "page 1 old 8"),
            ("page 1 old", "page 2 old"), ("page 1 old 1 3 none", "page 1 old 1 3"),
            ("page 1 old 1 3 none", "page 1 old 1 3 3"), ("page 2 young", "page 2 old"),
            ("\npage 1 old", "\npage 0 old none none none none none none none none\npage 1 old"),
            ("\nlet n", "\n\nlet n"), ("at 1\n", "at 01\n"), ("at 1\n", "at x\n"),
            ("at 1\n", "at 1 1\n"), ("at 1\n", ""), ("at 1\n", "at 1\nsay 1\n"),
            ("at 1\n", "at 1\nat 1\n"), ("proc bye x\n", "proc bye\n"),
            ("do other x 1", "do other 1"), ("do other x 1", "do another x 1"),
            ("let z 1", "let za1 1"), ("let z 1", "let zzzzzzzzz 1"), ("let z 1", "let z 1 1"),
            ("let z 1", "let z False"), ("let z 1", "let z"), ("let z 1", "let z x"),
            ("object 9 traced record 0 0 0 none new", "object 9 traced record 0 0 0 none"),
            ("object 9 traced record 0 0 0 none new", "object 9 traced record 0 0 0"),
            ("object 8 traced map 0 0 0", "object 8 traced map 0 0"),
            ("object 8 traced map 0 0 0", "object 8"), ("object 8 traced map 0 0 0", "object"),
            ("cycle 8 1 0 1 2 3 4 7", "cycle 90 1 0 1 2 3 4 7 8"),
            ("say y.0\nend\n", "say y.0\n"), ("say y.0\nend\n", "say y.0\nend\nend\n"),
            ("proc other p q", "proc bye p q"), ("say y.0", "say y.9"),
        ]
        self.assertIsNone(raised(resume, text))
        for old, new in changes:
            self.assertTrue(old in text, old)
            self.assertEqual(raised(resume, text.replace(old, new)), ("BadText", {"row": 0}), (old, new))


if __name__ == "__main__":
    unittest.main()
