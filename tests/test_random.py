"""Longer random scripts: the package and the model tell and show the same."""
import random
import unittest

from tests.compare import Pair
from tests.makers import CLOSING, RowMaker, begun, block_script, policy_of

SCRIPTS = 260
ROWS = 120
BLOCKS = 90


def row_of(maker, machine):
    return maker.row(machine.variables, lambda number: machine[number][1],
                     lambda number: len(machine[number][2]))


class TestRandom(unittest.TestCase):
    def check_rows(self, seed):
        source = random.Random(seed)
        pair = Pair(**(policy_of(source) if seed % 2 else {}))
        closing = (CLOSING, [], CLOSING + ["calm", "fail"])[seed % 3]
        weights = {word: source.choice([0.3, 1, 3]) for word in ("rings", "begin", "minor")}
        maker = RowMaker(source, closing, weights)
        text = begun()
        for _ in range(ROWS):
            given, wanted = pair.run(text)
            self.assertEqual(given, wanted, (seed, text))
            given, wanted = pair.states()
            self.assertEqual(given, wanted, (seed, text))
            text = row_of(maker, pair.machine)

    def test_row_by_row(self):
        for seed in range(SCRIPTS):
            self.check_rows(seed)

    def test_whole_scripts(self):
        # The rows of a history, run at once on new machines.
        for seed in range(60):
            source = random.Random(1000 + seed)
            policy = policy_of(source)
            scout = Pair(**policy)
            maker = RowMaker(source)
            rows = [begun()]
            scout.run(rows[0])
            for _ in range(60):
                row = row_of(maker, scout.machine)
                if scout.run(row)[0][1] is None:
                    rows.append(row)
            pair = Pair(**policy)
            given, wanted = pair.run("\n".join(rows))
            self.assertEqual(given, wanted, seed)
            given, wanted = pair.states()
            self.assertEqual(given, wanted, seed)

    def test_blocks_and_calls(self):
        words = set()
        for seed in range(BLOCKS):
            source = random.Random(seed)
            pair = Pair(**(policy_of(source) if seed % 2 else {}))
            pair.run("let x = 1\nlet y = record counted 2\nlet a = record traced 2\n"
                     "let Hat = none\nlet b = weak counted a")
            for letter in "qrs":
                text = block_script(source, 9)
                for name in ("pone", "ptwo", "pthree"):
                    text = text.replace(name, name + letter)
                given, wanted = pair.run(text)
                self.assertEqual(given, wanted, (seed, text))
                if given[1] == "Fault":
                    words.add(given[2][0])
                given, wanted = pair.states()
                self.assertEqual(given, wanted, (seed, text))
        self.assertLessEqual({"deep", "unset", "object", "sort", "slot", "held"}, words)


if __name__ == "__main__":
    unittest.main()
