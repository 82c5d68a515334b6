"""Section 13: lean scripts and least limits."""
import random
import unittest

from crossheaps.lean import lean, least_limit
from crossheaps.machine import Machine
from crossheaps.scripts import check, read_script, show_script
from tests import plain
from tests.compare import told_by_model
from tests.helpers import ANY, lines, raised
from tests.makers import CLOSING, PlainMaker, RowMaker, begun, block_script
from tests.model import Model


def slim(*rows):
    """The rows of a lean script, from rows with the drops that are expected.

    Rows that begin with a star are expected drops: the script that is made lean is without them.
    """
    given = [row for row in rows if not row.startswith("*")]
    wanted = [row.replace("*", "drop ") for row in rows]
    found = lean(read_script("\n".join(given)))
    return show_script(found).split("\n"), wanted


class TestLean(unittest.TestCase):
    def check_rows(self, *rows):
        found, wanted = slim(*rows)
        self.assertEqual(found, wanted)
        check(read_script("\n".join(found)))

    def test_empty(self):
        self.assertEqual(lean(()), ())
        self.assertEqual(lean(rows=()), ())

    def test_kinds_of_values(self):
        rows = read_script("let a = 1\nsay a\nlet b = a")
        found = lean(rows)
        self.assertEqual(found, (("let", "a", "=", "1"), ("say", "a"), ("let", "b", "=", "a"),
                                 ("drop", "a"), ("drop", "b")))
        self.assertIs(type(found), tuple)
        self.assertTrue(all(type(row) is tuple for row in found))
        self.assertEqual(rows, read_script("let a = 1\nsay a\nlet b = a"))

    def test_statements(self):
        self.check_rows("let a = 1", "*a")
        self.check_rows("let a = 1", "let b = 2", "*b", "say 7", "say a", "*a", "say 8")
        self.check_rows("minor", "say 3", "do p", "proc p", "end")
        self.check_rows("let b = 1", "let a = b", "*a", "*b")
        self.check_rows("let b = 1", "let a = 1", "let c = 2", "*c", "do p b a b", "*a", "*b",
                        "proc p x y z", "*x", "*y", "*z", "end")

    def test_assigned_ahead_of_its_use(self):
        self.check_rows("let a = 1", "*a", "say 1", "let a = 2", "say a", "*a")
        self.check_rows("let a = 1", "let a = a", "*a")
        # It is sure and idle ahead of the second row, too, so that nothing is put in behind it.
        self.check_rows("let a = 1", "*a", "let a = 2")
        self.check_rows("let a = 1", "*a", "let a = 2", "let a = 3", "say a", "*a")

    def test_what_uses(self):
        for row in ("say a", "say a.0", "say get a", "say a at b", "say b at a", "let c = a",
                    "let c = a.3", "let c = weak counted a", "let c = get a", "let c = a at b",
                    "let c = b at a", "a.0 = 7", "b.0 = a", "a at b = none", "b at a = none",
                    "b at b = a", "hold a", "release a", "pin a", "unpin a", "do p a b b",
                    "do p 1 none a"):
            uses_both = " b" in " " + row
            drops = ["*a", "*b"] if uses_both else ["*a"]
            last = ["say c", "*c"] if "c =" in row else []
            self.check_rows("let a = 1", "let b = 2", *([] if uses_both else ["*b"]), "say 3", row,
                            *drops, *last, "proc p x y z", "*x", "*y", "*z", "end")

    def test_what_does_not_use(self):
        for row in ("let a = record traced 0 then a", "do a 5", "say 5", "let a = 5",
                    "let a = map counted", "settle"):
            self.check_rows("let a = 1", "*a", row, "proc a x", "*x", "end")

    def test_drops_of_the_script(self):
        self.check_rows("let a = 1", "drop a")
        self.check_rows("let a = 1", "say a", "drop a", "say 1")
        self.check_rows("let a = 1", "drop a", "let a = 2", "*a")
        self.check_rows("drop a", "let a = 2", "*a")
        self.check_rows("let a = 1", "if 1 is 2", "drop a", "end", "say 1")
        self.check_rows("let a = 1", "if 1 is 2", "drop a", "else", "*a", "say 1", "end", "say 2")
        self.check_rows("let a = 1", "if 1 is 2", "drop a", "let a = 2", "end", "say a", "*a")
        self.check_rows("let a = 1", "if 1 is 2", "drop a", "end", "say a")

    def test_not_surely_set(self):
        self.check_rows("say a", "say 1")
        self.check_rows("if 1 is 2", "let a = 1", "end", "say a")
        self.check_rows("if 1 is 2", "let a = 1", "else", "let a = 2", "end", "say a", "*a")
        self.check_rows("if 1 is 2", "let a = 1", "*a", "else", "say 2", "end", "say 1")
        self.check_rows("repeat 5", "let a = 1", "end", "say a")
        self.check_rows("repeat 5", "let a = 1", "say a", "*a", "end", "say 1")
        self.check_rows("repeat 5", "say a", "let a = 1", "end")
        self.check_rows("drop a", "say 3")

    def test_global_names(self):
        self.check_rows("let A = 1", "say A", "let b = A", "*b", "say 2")
        self.check_rows("proc p x", "let X = x", "*x", "say X", "end", "let Xy = 2")
        self.check_rows("let a = Z", "*a", "drop Z")

    def test_if(self):
        self.check_rows("let a = 1", "if a is 1", "*a", "say 2", "else", "*a", "say 3", "end",
                        "say 4")
        self.check_rows("let a = 1", "let b = 1", "if a is b", "*a", "*b", "end", "say 4")
        self.check_rows("let a = 1", "if 1 is 1", "say a", "*a", "end", "say 4")
        self.check_rows("let a = 1", "if 1 is 1", "say a", "*a", "else", "*a", "end", "say 4")
        self.check_rows("let a = 1", "if 1 is 1", "*a", "else", "say a", "*a", "end", "say 4")
        self.check_rows("let a = 1", "if 1 is 1", "say a", "else", "say 2", "end", "say a", "*a")
        self.check_rows("let a = 1", "*a", "if 1 is 1", "say 2", "else", "say 3", "end")

    def test_empty_arms(self):
        self.check_rows("let a = 1", "if a is 2", "*a", "else", "*a", "end")
        self.check_rows("let a = 1", "if a is 2", "*a", "end")
        self.check_rows("if 1 is 2", "else", "end")
        self.check_rows("repeat 3", "end", "proc p", "end")

    def test_assigned_in_an_arm(self):
        self.check_rows("let a = 1", "if 1 is 1", "*a", "let a = 2", "else", "say 1", "end",
                        "say a", "*a")
        self.check_rows("let a = 1", "if a is 1", "*a", "let a = 2", "end", "say a", "*a")

    def test_nested_arms(self):
        self.check_rows("let a = 1", "if 1 is 1", "if 2 is 2", "say a", "*a", "else", "*a", "end",
                        "say 5", "else", "*a", "say 6", "end", "say 7")
        self.check_rows("let a = 1", "if 1 is 1", "*a", "if 2 is 2", "say 1", "end", "else",
                        "say a", "*a", "end")

    def test_repeat(self):
        self.check_rows("let b = 5", "repeat 2", "say b", "end", "*b")
        self.check_rows("let b = 5", "repeat 0", "say b", "end", "*b")
        self.check_rows("let b = 5", "repeat 2", "say b", "end", "say b", "*b")
        self.check_rows("let b = 5", "*b", "repeat 2", "say 1", "end", "say 2")
        self.check_rows("let b = 5", "*b", "repeat 2", "let b = 6", "say b", "*b", "end")
        self.check_rows("let b = 5", "repeat 2", "*b", "let b = 6", "end", "say b", "*b")
        self.check_rows("let b = 5", "repeat 2", "say b", "*b", "let b = 6", "end", "*b")
        self.check_rows("let b = 5", "repeat 2", "end", "say b", "*b")

    def test_repeat_with_drops(self):
        self.check_rows("let b = 5", "repeat 2", "say b", "drop b", "end", "say 4")
        self.check_rows("let b = 5", "repeat 2", "drop b", "let b = 1", "end", "*b")

    def test_nested_blocks(self):
        self.check_rows("let a = 1", "repeat 2", "repeat 3", "say a", "end", "end", "*a")
        self.check_rows("let a = 1", "repeat 2", "repeat 3", "say a", "end", "*a", "let a = 2",
                        "end", "*a")
        self.check_rows("let a = 1", "repeat 2", "if a is 1", "say 2", "end", "end", "*a")
        self.check_rows("repeat 2", "let a = 1", "if a is 1", "*a", "say 2", "end", "end")
        self.check_rows("let a = 1", "if 1 is 1", "repeat 2", "say a", "end", "*a", "else", "*a",
                        "end")
        deep = ["repeat 1"] * 8
        self.check_rows("let a = 1", *deep, "say a", *["end"] * 8, "*a")

    def test_repeat_at_the_end_of_an_arm(self):
        self.check_rows("let a = 1", "if 1 is 1", "*a", "repeat 2", "say 1", "end", "else",
                        "say a", "*a", "end")

    def test_procedures(self):
        self.check_rows("proc p", "end")
        self.check_rows("proc p a b", "*a", "*b", "end")
        self.check_rows("proc p b a", "*a", "*b", "end")
        self.check_rows("proc p b a", "*a", "say b", "*b", "say 3", "end")
        self.check_rows("proc p a", "say a", "*a", "let c = 1", "*c", "end")
        self.check_rows("proc p a", "*a", "let a = 1", "say a", "*a", "end")
        self.check_rows("proc p a", "drop a", "end")
        self.check_rows("proc p a", "if a is none", "*a", "else", "say a", "*a", "end", "end")
        self.check_rows("proc p a", "repeat 2", "say a", "end", "*a", "end")
        self.check_rows("proc p", "say a", "end")

    def test_procedures_apart(self):
        self.check_rows("let a = 1", "proc p", "say a", "drop a", "end", "say a", "*a")
        self.check_rows("let a = 1", "*a", "proc p a", "say a", "*a", "end", "say 3")
        self.check_rows("let a = 1", "proc p", "let a = 2", "*a", "end", "say a", "*a", "do p")
        self.check_rows("proc p a", "*a", "end", "proc q b", "say a", "say b", "*b", "end",
                        "say a", "say b")

    def test_names_in_order(self):
        self.check_rows("let c = 1", "let a = 1", "let bb = 1", "let b = 1", "do p c bb a b", "*a",
                        "*b", "*bb", "*c", "proc p d c b a", "*a", "*b", "*c", "*d", "end")

    def test_many_names(self):
        names = ["x" + one + two for one in "abcdefghij" for two in "klmnopqrst"]
        rows = [f"let {name} = 1" for name in names]
        self.check_rows(*rows, *[part for name in names for part in (f"say {name}", f"*{name}")])

    def test_drawn(self):
        drops = 0
        for seed in range(150):
            source = random.Random(seed)
            for text in (PlainMaker(source).script(9), block_script(source, 9)):
                rows = read_script(text)
                found = lean(rows)
                self.assertEqual(found, plain.lean(rows), text)
                check(found)
                drops += len(found) - len(rows)
                kept = list(found)
                for words in rows:
                    kept.remove(words)
                self.assertTrue(all(row[0] == "drop" and row[1].islower() for row in kept))
        self.assertGreater(drops, 1000)


class TestLeastLimit(unittest.TestCase):
    def test_nothing_created(self):
        for text in ("", "say 1", "let a = 1\nrepeat 5\nsay a\nend", "proc p\nlet a = map traced\nend",
                     "if 1 is 2\nlet a = map counted\nend", "repeat 0\nlet a = map counted\nend"):
            self.assertEqual(least_limit(text), 0)
            self.assertEqual(least_limit(text=text), 0)

    def test_numbers(self):
        make = "let {} = record counted 1"
        self.assertEqual(least_limit("let a = map traced"), 1)
        self.assertEqual(least_limit(lines(make.format("a"), make.format("b"))), 2)
        self.assertEqual(least_limit(lines(make.format("a"), "drop a", make.format("b"))), 1)
        self.assertEqual(least_limit(lines(make.format("a"), make.format("a"))), 2)
        self.assertEqual(least_limit("repeat 50\nlet a = record traced 1\nend"), 2)
        self.assertEqual(least_limit(lines("repeat 50", "let a = record traced 1", "a.0 = a",
                                           "drop a", "end")), 1)
        self.assertEqual(least_limit(lines("let b = none", "repeat 50", "let a = record traced 1",
                                           "a.0 = b", "let b = a", "end")), 50)

    def test_what_is_reachable(self):
        begun_rows = ["let m = map counted", "let k = record counted 1", "k.0 = k",
                      "let v = record traced 0", "m at k = v", "drop v", "drop k"]
        self.assertEqual(least_limit(lines(*begun_rows, "let x = map counted")), 3)
        self.assertEqual(least_limit(lines(*begun_rows, "drop m", "let x = map counted")), 3)
        text = lines("let a = record traced 0", "pin a", "drop a", "let b = record traced 0",
                     "hold b", "drop b", "let c = record counted 0 then bye", "drop c",
                     "let d = map counted", "drop d", "finalize", "let e = map counted",
                     "proc bye x", "let f = record counted 0", "end")
        self.assertEqual(least_limit(text), 4)
        self.assertEqual(least_limit(text.replace("finalize\n", "say 1\n")), 4)

    def test_in_calls(self):
        text = lines("let a = record counted 0", "do p a", "proc p x", "drop x",
                     "let y = map counted", "do q y", "end", "proc q z", "let v = map traced", "end")
        self.assertEqual(least_limit(text), 3)
        text = lines("let a = record counted 0 then bye", "drop a", "settle", "proc bye x",
                     "let y = map counted", "let z = map traced", "end")
        self.assertEqual(least_limit(text), 3)

    def test_weak_answers(self):
        text = lines("let a = record traced 1", "let b = record traced 0", "a.0 = b",
                     "let w = weak traced a", "drop a", "drop b", "let c = map counted",
                     "let a = get w", "drop c", "let d = map counted")
        self.assertEqual(least_limit(text), 4)

    def test_errors(self):
        for value in ANY:
            if not isinstance(value, str):
                self.assertEqual(raised(least_limit, value), ("BadRow", {"row": 0}))
        for text, wanted in (
                ("say 1\nsay", ("BadRow", {"row": 1})), ("end", ("BadBlock", {"row": 0})),
                ("proc p\nend\nproc p\nend", ("Twice", {"row": 2})),
                ("say 1\ndo p", ("NoProcedure", {"row": 1})),
                ("do p 1\nproc p\nend", ("WrongCount", {"row": 0})),
                ("let a = map counted\nsay x", ("Fault", {"word": "unset", "row": 1})),
                ("let a = weak counted x", ("Fault", {"word": "unset", "row": 0})),
                ("repeat 10000\nlet a = map counted\nend", ("Fault", {"word": "long", "row": 1})),
                ("do p\nproc p\nlet x = map traced\ndo p\nend", ("Fault", {"word": "deep", "row": 3}))):
            self.assertEqual(raised(least_limit, text), wanted)
            self.assertEqual(raised(Machine().told, text), wanted)

    def test_long_scripts(self):
        text = "let y = 0\nrepeat 1500\nlet x = record counted 1\nx.0 = y\nlet y = x\nend"
        self.assertEqual(least_limit(text), 1500)
        self.assertEqual(least_limit("repeat 9999\nlet x = record traced 1\nend"), 2)

    def check_beside_the_model(self, text):
        slow = Model()
        slow.made = []
        wanted = told_by_model(slow, text)
        if wanted[1] is not None:
            found = raised(least_limit, text)
            self.assertEqual((found[0], tuple(found[1].values())), wanted[1:], text)
            return 0
        self.assertEqual(least_limit(text), max(slow.made, default=-1) + 1, text)
        return 1

    def test_drawn(self):
        ended_well = 0
        for seed in range(120):
            source = random.Random(seed)
            ended_well += self.check_beside_the_model(PlainMaker(source).script(12))
            self.check_beside_the_model(block_script(source, 9))
            machine = Machine()
            machine.told(begun())
            rows = [begun()]
            maker = RowMaker(source, CLOSING, {"settle": 0.1})
            for _ in range(25):
                rows.append(maker.row(machine.variables, lambda number: machine[number][1],
                                      lambda number: len(machine[number][2])))
                if raised(machine.told, rows[-1]) is not None:
                    rows.pop()
            ended_well += self.check_beside_the_model("\n".join(rows))
        self.assertGreater(ended_well, 120)


if __name__ == "__main__":
    unittest.main()
