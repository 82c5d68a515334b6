"""Guarantee (k): the links of fewest_cuts, cut by statements, let settle free the victims."""
import random
import unittest

from crossheaps.cuts import fewest_cuts
from crossheaps.deaths import dies_without
from crossheaps.machine import Machine
from crossheaps.snapshots import alive, links, snapshot
from tests.helpers import lines, raised

LETTERS = "abcdefghijkl"


class Wired:
    """A machine of drawn objects. A weak object stands by each one, so that it can be asked for."""

    def __init__(self, source):
        self.source = source
        self.machine = Machine()
        self.grips = {}
        self.handles = {}
        self.sorts = {}
        self.letters = LETTERS[:source.randint(3, len(LETTERS))]
        for letter in self.letters:
            self.make(letter)
        for _ in range(source.randint(0, 30)):
            self.wire()
        for letter in self.letters:
            if source.random() < 0.75:
                self.run(f"drop v{letter}")
            elif source.random() < 0.1:
                self.run(f"let W{letter} = v{letter}")
        for _ in range(source.randint(0, 3)):
            self.run(source.choice(["minor", "rings 3", "begin", "slice 1", "begin\nslice 99"]))

    def run(self, *rows):
        return self.machine.told(lines(*rows))

    def make(self, letter):
        sort = "map" if self.source.random() < 0.3 else "record"
        number = self.machine.next_number
        home = self.source.choice(["counted", "traced"])
        self.run(f"let v{letter} = {sort} {home}" + (" 3" if sort == "record" else ""),
                 f"let h{letter} = weak {self.source.choice(['counted', 'traced'])} v{letter}")
        self.handles[number] = f"h{letter}"
        self.sorts[letter] = sort

    def wire(self):
        source = self.source
        one, two, three = (source.choice(self.letters) for _ in range(3))
        kind = source.random()
        if kind < 0.08:
            word = source.choice(["pin", "hold"])
            number = dict(self.machine.variables)[f"v{one}"][1]
            self.grips[(word, number)] = self.grips.get((word, number), 0) + 1
            self.run(f"{word} v{one}")
        elif self.sorts[one] == "map":
            self.run(f"v{one} at v{two} = v{three}")
        else:
            self.run(f"v{one}.{source.randrange(3)} = v{two}")

    def cut(self, link):
        """Cuts a link by statements, and returns their events."""
        if link[0] != "root":
            rows = [f"let T = get {self.handles[link[1]]}"]
            if link[0] == "slot":
                return self.run(*rows, f"T.{link[2]} = none", "drop T")
            return self.run(*rows, f"let K = get {self.handles[link[2]]}", "T at K = none", "drop T",
                            "drop K")
        if " " not in link[1]:
            return self.run(f"drop {link[1]}")
        word, number = link[1].split(" ")
        many = self.grips[(word, int(number))]
        off = {"pin": "unpin T", "hold": "release T"}[word]
        return self.run(f"let T = get {self.handles[int(number)]}", *[off] * many, "drop T")


class TestCutByStatements(unittest.TestCase):
    def check(self, seed):
        source = random.Random(seed)
        wired = Wired(source)
        machine = wired.machine
        shot = snapshot(machine)
        there = [number for number in alive(shot) if number in wired.handles]
        if not there:
            return None
        victims = tuple(source.sample(there, min(len(there), source.choice([1, 1, 2]))))
        fixed = tuple(link for link in links(shot) if source.random() < source.choice([0, 0, 0.2]))
        if raised(fewest_cuts, shot, victims, fixed) is not None:
            return None
        chosen = fewest_cuts(shot, victims, fixed)
        if chosen is None:
            return None
        before = set(machine.present)
        dead = set(dies_without(shot, *chosen))
        gone = before - set(alive(shot))
        self.assertLessEqual(set(victims), dead)
        events = [event for link in chosen for event in wired.cut(link)]
        events += machine.told("settle")
        freed = [event[1] for event in events if event[0] == "free"]
        self.assertEqual(sorted(freed), sorted(dead | gone), (seed, chosen))
        self.assertEqual(set(machine.present), before - dead - gone)
        return chosen

    def test_drawn(self):
        sizes = {}
        kinds = {}
        for seed in range(700):
            chosen = self.check(seed)
            if chosen is not None:
                sizes[len(chosen)] = sizes.get(len(chosen), 0) + 1
                for link in chosen:
                    kind = link[1].split(" ")[0] if link[0] == "root" else link[0]
                    kind = "name" if kind[0] in "vW" else kind
                    kinds[kind] = kinds.get(kind, 0) + 1
        self.assertTrue(all(sizes.get(size, 0) > 20 for size in (1, 2, 3)), sizes)
        for kind in ("name", "pin", "hold", "slot", "entry"):
            self.assertGreater(kinds.get(kind, 0), 20, kinds)

    def test_pinned_and_held_often(self):
        machine = Machine()
        machine.told("let a = record counted 0\npin a\npin a\nhold a\nhold a\nhold a")
        shot = snapshot(machine)
        self.assertEqual(fewest_cuts(shot, (0,)), (("root", "a"), ("root", "hold 0"), ("root", "pin 0")))
        events = machine.told("unpin a\nunpin a\nrelease a\nrelease a\nsettle\nrelease a\nsettle\nsay 1\n"
                              "drop a")
        self.assertEqual(events[-2:], (("say", "1"), ("free", 0)))


if __name__ == "__main__":
    unittest.main()
