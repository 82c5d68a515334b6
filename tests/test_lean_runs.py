"""Section 20: guarantee (i) of lean and least_limit, (k) for deaths, by runs of machines."""
import random
import unittest

from crossheaps.deaths import dies_with, dies_without, keepers
from crossheaps.lean import lean, least_limit
from crossheaps.machine import Machine
from crossheaps.scripts import read_script, show_script
from crossheaps.snapshots import alive, links, snapshot
from tests.compare import told_by_model
from tests.helpers import ended, lines, raised
from tests.makers import PlainMaker, RowMaker
from tests.model import Model

POLICIES = [{}, {"young": 1}, {"young": 3, "start": 2, "pace": 1}, {"start": 1, "pace": 1},
            {"start": 4, "pace": 10000}, {"young": 2, "start": 7, "pace": 3}]


def drawn(seed):
    """A script without weak objects and closing procedures, and the lean one."""
    text = PlainMaker(random.Random(seed)).script(12)
    return text, show_script(lean(read_script(text)))


def said(machine, text):
    """What a script says, and the word of its fault."""
    events, _, values = ended(machine, text)
    return [event for event in events if event[0] == "say"], values[0] if values else None


class TestLeanScripts(unittest.TestCase):
    def test_say_the_same(self):
        whole = 0
        for seed in range(150):
            text, slim = drawn(seed)
            wanted = said(Machine(), text)
            whole += wanted[1] is None
            for policy in POLICIES:
                self.assertEqual(said(Machine(**policy), slim), wanted, (text, policy))
                self.assertEqual(said(Machine(**policy), text), wanted, (text, policy))
        self.assertGreater(whole, 80)

    def test_nothing_more_is_reachable(self):
        fewer = 0
        for seed in range(150):
            reached = []
            for text in drawn(seed):
                slow = Model()
                slow.reached = []
                told_by_model(slow, text)
                reached.append(slow.reached)
            first, second = reached
            self.assertEqual(len(first), len(second), seed)
            self.assertTrue(all(more >= less for more, less in zip(first, second)), seed)
            fewer += len([at for at in range(len(first)) if first[at] > second[at]])
        self.assertGreater(fewer, 500)

    def test_lean_again(self):
        # What is lean lets go of nothing more that is told.
        for seed in range(60):
            text, slim = drawn(seed)
            again = show_script(lean(read_script(slim)))
            self.assertEqual(said(Machine(), again), said(Machine(), text))


class TestLeastLimits(unittest.TestCase):
    def test_just_enough(self):
        tight = 0
        for seed in range(150):
            for text in drawn(seed):
                if ended(Machine(), text)[1] is not None:
                    continue
                limit = least_limit(text)
                machine = Machine(limit=limit) if limit > 0 else Machine()
                self.assertEqual(said(machine, text), said(Machine(), text), text)
                if limit > 1:
                    tight += 1
                    found = raised(Machine(limit=limit - 1).told, text)
                    self.assertEqual((found[0], found[1]["word"]), ("Fault", "full"), text)
        self.assertGreater(tight, 150)

    def test_lean_ones_need_no_more(self):
        less = 0
        for seed in range(150):
            text, slim = drawn(seed)
            if ended(Machine(), text)[1] is None:
                self.assertLessEqual(least_limit(slim), least_limit(text), text)
                less += least_limit(slim) < least_limit(text)
        self.assertGreater(less, 40)


class TestDeathsOfMachines(unittest.TestCase):
    def machine(self, source):
        """A machine without closing procedures that did a random history."""
        machine = Machine()
        maker = RowMaker(source, [], {"hold": 3, "pin": 3, "create": 14, "drop": 4, "settle": 0})
        for _ in range(60):
            ended(machine, maker.row(machine.variables, lambda number: machine[number][1],
                                     lambda number: len(machine[number][2])))
        return machine

    def rows_for(self, names, link):
        """Rows that cut a link by the names of objects; None where a name is missing."""
        if link[0] == "root" and " " in link[1]:
            word, number = link[1].split(" ")
            row = {"pin": "unpin {}", "hold": "release {}"}[word]
            return row.format(names[int(number)]) if int(number) in names else None
        if link[0] == "root":
            return f"drop {link[1]}"
        if link[1] not in names or (link[0] == "entry" and link[2] not in names):
            return None
        if link[0] == "slot":
            return f"{names[link[1]]}.{link[2]} = none"
        return f"{names[link[1]]} at {names[link[2]]} = none"

    def cut(self, machine, source):
        """Cuts some links by statements, drops last; returns them."""
        names = {value[1]: name for name, value in machine.variables if isinstance(value, tuple)}
        rows = {link: self.rows_for(names, link) for link in links(snapshot(machine))}
        chosen = [link for link in rows if rows[link] is not None and source.random() < 0.4]
        for link in sorted(chosen, key=lambda link: rows[link].startswith("drop")):
            machine.told(rows[link])
            if rows[link].split(" ")[0] in ("unpin", "release"):
                while ended(machine, rows[link])[1] is None:
                    pass
        return chosen

    def test_settle_frees_what_dies(self):
        died = 0
        for seed in range(150):
            source = random.Random(seed)
            machine = self.machine(source)
            shot = snapshot(machine)
            there = set(machine.present)
            chosen = self.cut(machine, source)
            machine.told("settle")
            gone = there - set(alive(shot)) | set(dies_without(shot, *chosen))
            self.assertEqual(there - set(machine.present), gone, seed)
            died += len(dies_without(shot, *chosen))
        self.assertGreater(died, 150)

    def test_deaths_and_keepers(self):
        kept = 0
        for seed in range(60):
            shot = snapshot(self.machine(random.Random(seed)))
            table = {number: set(dies_with(shot, number)) for number, _, _, _ in shot[1]}
            for number in table:
                found = tuple(other for other in table if number in table[other])
                self.assertEqual(keepers(shot, number), found)
                self.assertEqual(number in table[number], number in alive(shot))
                kept += len(found)
        self.assertGreater(kept, 500)

    def test_all_roots(self):
        for seed in range(30):
            shot = snapshot(self.machine(random.Random(seed)))
            roots = [("root", root) for root, _ in shot[0]]
            self.assertEqual(dies_without(shot, *roots), alive(shot))


class TestOneScript(unittest.TestCase):
    def test_by_hand(self):
        text = lines("let a = record counted 1", "let b = record counted 0", "a.0 = b", "say b",
                     "let c = record traced 0", "say a", "let d = record traced 0", "say c")
        slim = show_script(lean(read_script(text)))
        self.assertEqual(slim, lines(
            "let a = record counted 1", "let b = record counted 0", "a.0 = b", "say b", "drop b",
            "let c = record traced 0", "say a", "drop a", "let d = record traced 0", "drop d",
            "say c", "drop c"))
        self.assertEqual([least_limit(text), least_limit(slim)], [4, 3])
        self.assertIsNone(raised(Machine(limit=3).told, slim))
        self.assertEqual(raised(Machine(limit=2).told, slim), ("Fault", {"word": "full", "row": 5}))
        self.assertEqual(raised(Machine(limit=3).told, text), ("Fault", {"word": "full", "row": 6}))


if __name__ == "__main__":
    unittest.main()
