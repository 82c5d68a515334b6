"""Longer random scripts: the package and the model tell and show the same."""
import random
import unittest

from crossheaps.machine import Machine
from tests.compare import Pair, shown, told_by
from tests.helpers import raised
from tests.makers import CLOSING, RowMaker, begun, block_script, policy_of

SCRIPTS = 260
ROWS = 120
BLOCKS = 90


def row_of(maker, machine):
    return maker.row(machine.variables, lambda number: machine[number][1],
                     lambda number: len(machine[number][2]))


class TestRandom(unittest.TestCase):
    def check_rows(self, seed):
        source = random.Random(seed)
        pair = Pair(**(policy_of(source) if seed % 2 else {}))
        closing = (CLOSING, [], CLOSING + ["calm", "fail"])[seed % 3]
        weights = {word: source.choice([0.3, 1, 3]) for word in ("rings", "begin", "minor")}
        maker = RowMaker(source, closing, weights)
        text = begun()
        for _ in range(ROWS):
            given, wanted = pair.run(text)
            self.assertEqual(given, wanted, (seed, text))
            given, wanted = pair.states()
            self.assertEqual(given, wanted, (seed, text))
            text = row_of(maker, pair.machine)

    def test_row_by_row(self):
        for seed in range(SCRIPTS):
            self.check_rows(seed)

    def test_whole_scripts(self):
        # The rows of a history, run at once on new machines.
        for seed in range(60):
            source = random.Random(1000 + seed)
            policy = policy_of(source)
            scout = Pair(**policy)
            maker = RowMaker(source)
            rows = [begun()]
            scout.run(rows[0])
            for _ in range(60):
                row = row_of(maker, scout.machine)
                if scout.run(row)[0][1] is None:
                    rows.append(row)
            pair = Pair(**policy)
            given, wanted = pair.run("\n".join(rows))
            self.assertEqual(given, wanted, seed)
            given, wanted = pair.states()
            self.assertEqual(given, wanted, seed)

    def test_told_at_once(self):
        # What is told at once is what is given one by one, also behind scripts that fail.
        failed = 0
        for seed in range(60):
            source = random.Random(2000 + seed)
            policy = policy_of(source)
            first, second = Machine(**policy), Machine(**policy)
            maker = RowMaker(source, CLOSING + ["calm", "fail"])
            text = begun()
            for _ in range(30):
                given = told_by(first, text)
                if given[1] is None:
                    self.assertEqual(second.told(text), given[0], (seed, text))
                else:
                    failed += 1
                    error = raised(second.told, text)
                    self.assertEqual((error[0], tuple(error[1].values())), given[1:], (seed, text))
                self.assertEqual(shown(first), shown(second), (seed, text))
                rows = [row_of(maker, first) for _ in range(source.randint(1, 4))]
                text = "\n".join(rows)
        self.assertGreater(failed, 100)

    def test_many_traced_objects(self):
        # Enough of them for pages that fill up, are emptied, and are given back.
        words = set()
        weights = {"create": 30, "drop": 16, "minor": 3, "pin": 2, "compact": 4, "enter": 1}
        for seed in range(8):
            source = random.Random(3000 + seed)
            pair = Pair()
            maker = RowMaker(source, [], weights)
            maker.home = lambda: "traced"
            pair.run("\n".join(f"let {a}{b} = record traced 1" for a in "xyz" for b in "klmnpqrstv"))
            for _ in range(150):
                text = row_of(maker, pair.machine)
                given, wanted = pair.run(text)
                self.assertEqual(given, wanted, (seed, text))
                words |= {event[0] for event in given[0]}
                self.assertEqual(pair.machine.pages, pair.model.state()["pages"], (seed, text))
            given, wanted = pair.states()
            self.assertEqual(given, wanted, seed)
        self.assertLessEqual({"page", "old", "move", "back", "free"}, words)

    def test_long_scripts(self):
        for body in ("let w = 0", "say 1", "say w", "let a = record counted 1\na.0 = a",
                     "let t = record traced 1", "do p w", "if w is 1\nsay 2\nelse\nsay 3\nend",
                     "hold b\nrelease b", "m at b = b\nb.0 = m"):
            text = ("let w = 1\nlet b = record counted 1\nlet m = map counted\n"
                    f"repeat 300\n{body}\nend\nproc p x\nsay x\nend\nminor\nrings 9\nsettle")
            pair = Pair()
            given, wanted = pair.run(text)
            self.assertEqual(given, wanted, body)
            self.assertEqual(*pair.states())
            self.assertEqual(Machine().told(text), given[0])

    def test_blocks_and_calls(self):
        words = set()
        for seed in range(BLOCKS):
            source = random.Random(seed)
            pair = Pair(**(policy_of(source) if seed % 2 else {}))
            pair.run("let x = 1\nlet y = record counted 2\nlet a = record traced 2\n"
                     "let Hat = none\nlet b = weak counted a")
            for letter in "qrs":
                text = block_script(source, 9)
                for name in ("pone", "ptwo", "pthree"):
                    text = text.replace(name, name + letter)
                given, wanted = pair.run(text)
                self.assertEqual(given, wanted, (seed, text))
                if given[1] == "Fault":
                    words.add(given[2][0])
                given, wanted = pair.states()
                self.assertEqual(given, wanted, (seed, text))
        self.assertLessEqual({"deep", "unset", "object", "sort", "slot", "held"}, words)


if __name__ == "__main__":
    unittest.main()
