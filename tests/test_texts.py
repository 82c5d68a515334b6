"""Section 18: snapshots as texts."""
import random
import unittest

from crossheaps.machine import Machine
from crossheaps.snapshots import is_snapshot, snapshot
from crossheaps.texts import read_snapshot, show_snapshot
from tests.helpers import ANY, lines, raised
from tests.shots import EMPTY, KEYED, SELF, chain, lived, shots

SHOT = ((("k", 1), ("m", 0)), (
    (0, "traced", "map", ((1, 2), (3, None))), (1, "counted", "record", ()),
    (2, "traced", "record", ((0, 3), (5, 2))), (3, "counted", "weak", (2,)),
    (4, "counted", "weak", ()), (5, "traced", "map", ())))
ROWS = ["root k 1", "root m 0", "0 traced map 1:2 3:-", "1 counted record",
        "2 traced record 0:3 5:2", "3 counted weak 2", "4 counted weak", "5 traced map"]
GREAT = int("9" * 30)


def bad(row):
    return ("BadText", {"row": row})


class TestShow(unittest.TestCase):
    def test_rows(self):
        self.assertEqual(show_snapshot(SHOT), lines(*ROWS))
        self.assertEqual(show_snapshot(EMPTY), "")
        self.assertEqual(show_snapshot(snapshot=((), ((7, "counted", "map", ()),))), "7 counted map")

    def test_roots(self):
        shot = ((("Pin", 3), ("hold 3", 3), ("pin 3", 3), ("queue", 3), ("queue 3", 3), ("root", 3)),
                ((3, "counted", "record", ()),))
        self.assertTrue(is_snapshot(shot))
        wanted = ["root Pin 3", "root hold 3 3", "root pin 3 3", "root queue 3", "root queue 3 3",
                  "root root 3", "3 counted record"]
        self.assertEqual(show_snapshot(shot), lines(*wanted))
        self.assertEqual(read_snapshot(lines(*wanted)), shot)


class TestRead(unittest.TestCase):
    def test_rows(self):
        self.assertEqual(read_snapshot(lines(*ROWS)), SHOT)
        self.assertEqual(read_snapshot(text=lines(*ROWS)), SHOT)
        self.assertEqual(read_snapshot(""), EMPTY)

    def test_drawn_and_machines(self):
        for shot in shots(random.Random(181), 300) + [SHOT, chain(400)]:
            text = show_snapshot(shot)
            self.assertEqual(read_snapshot(text), shot)
            self.assertTrue(is_snapshot(read_snapshot(text)))
        source = random.Random(182)
        for _ in range(60):
            machine = lived(source, 50)
            self.assertEqual(read_snapshot(show_snapshot(snapshot(machine))), snapshot(machine))
        self.assertEqual(read_snapshot(show_snapshot(snapshot(Machine()))), EMPTY)

    def test_any_value(self):
        for value in ANY:
            wanted = None if isinstance(value, str) and value == "" else bad(0)
            self.assertEqual(raised(read_snapshot, value), wanted, value)

    def test_empty_rows(self):
        for text, row in (("\n", 0), ("\n5 counted map", 0), ("5 counted map\n", 1), (" ", 0),
                          ("root a 5\n\n5 counted map", 1)):
            self.assertEqual(raised(read_snapshot, text), bad(row))

    def test_rows_without_a_form(self):
        wrong = [
            "root", "root k", "root 1", "root k 1 ", " root k 1", "root  k 1", "root k  1",
            "root k 01", "root k -1", "root k x", "root k 1 1", "root pin 1", "root hold 1",
            "root none 1", "root map 1", "root abcdefghi 1", "root aB 1", "root k1 1", "Root k 1",
            "root pin 01 1", "root pin 1 01", "root pin x 1", "root pin -1 1", "root Pin 1 1",
            "root say 1 1", "root pin 1 1 1", "root pin:1 1", "root k none",
            "1", "1 counted", "counted record", "01 counted record", "-1 counted record",
            "x counted record", "1 Counted record", "1 counted Record", "1 record counted",
            "1 counted record ", "1  counted record", "1 counted list", "1 counted weak map",
            "1 counted record 0", "1 counted record 0:", "1 counted record :0",
            "1 counted record 6:0", "1 counted record -1:0", "1 counted record 00:0",
            "1 counted record 0:00", "1 counted record 0:-", "1 counted record 0:1:2",
            "1 counted record 0:1  1:1", "1 counted record 10:1", "1 counted record 0:x",
            "1 counted record 0: 1", "1 counted record 0:none", "1 counted record none",
            "1 counted map 1", "1 counted map 1:", "1 counted map :1", "1 counted map 1:--",
            "1 counted map -:1", "1 counted map 1:01", "1 counted map 01:1", "1 counted map 1:none",
            "1 counted map 1:1:1", "1 counted map 1:1,2:1", "1 counted map 1:1 ",
            "1 counted weak 1 1", "1 counted weak 1 2", "1 counted weak 01", "1 counted weak -",
            "1 counted weak 1:1", "1 counted weak ", "1 counted weak x", "1 counted weak none",
            f"{GREAT}0 counted map", f"1 counted weak {GREAT}0", f"1 counted map 1:{GREAT}0",
            f"1 counted map {GREAT}0:1", f"1 counted record 0:{GREAT}0", f"root k {GREAT}0",
            f"root pin {GREAT}0 1", f"root pin 1 {GREAT}0", "say 1", "1 counted record\t",
        ]
        for row in wrong:
            self.assertEqual(raised(read_snapshot, row), bad(0), row)
            for at in range(len(ROWS) + 1):
                text = lines(*ROWS[:at], row, *ROWS[at:])
                self.assertEqual(raised(read_snapshot, text), bad(at), row)
            # The first one counts, and it goes ahead of what the whole is.
            self.assertEqual(raised(read_snapshot, lines("root z 99", row, row)), bad(1))

    def test_rows_with_a_form_that_are_no_text_of_a_snapshot(self):
        wrong = [
            "root k 1", "root pin 3 4\n3 counted map\n4 counted map", "root pin 3 3",
            "root queue 1\n2 counted map", "1 counted weak 2", "1 counted record 0:2",
            "1 counted map 2:-", "1 counted map 1:2", "1 counted map 2:1",
            "1 counted map\n1 counted map", "2 counted map\n1 counted map",
            "1 counted map\nroot k 1", "root k 1\n1 counted map\nroot l 1",
            "root l 1\nroot k 1\n1 counted map", "root k 1\nroot k 1\n1 counted map",
            "root hold 1 1\nroot hold 1 1\n1 counted map",
            "1 counted record 1:1 0:1", "1 counted record 0:1 0:1", "1 counted map 1:1 1:1",
            "1 counted map 2:- 1:-\n2 counted map", "1 counted map 1:- 1:1",
            f"root k {GREAT}", f"root hold {GREAT} 1\n1 counted map", f"1 counted weak {GREAT}",
        ]
        for text in wrong:
            many = len(text.split("\n"))
            self.assertEqual(raised(read_snapshot, text), bad(many), text)
        text = lines(*[f"{number} counted map" for number in range(401)])
        self.assertEqual(raised(read_snapshot, text), bad(401))
        self.assertIsNone(raised(read_snapshot, text.rpartition("\n")[0]))

    def test_great_numbers(self):
        text = lines(f"root hold {GREAT} {GREAT}", f"root k {GREAT}",
                     f"{GREAT} counted map {GREAT}:{GREAT}")
        shot = (((f"hold {GREAT}", GREAT), ("k", GREAT)),
                ((GREAT, "counted", "map", ((GREAT, GREAT),)),))
        self.assertEqual(read_snapshot(text), shot)
        self.assertEqual(show_snapshot(shot), text)
        # A snapshot may have greater numbers; its text then has no form.
        great = ((), ((10 ** 30, "counted", "map", ()),))
        self.assertTrue(is_snapshot(great))
        self.assertEqual(raised(read_snapshot, show_snapshot(great)), bad(0))

    def test_long_numbers(self):
        for digits in (31, 40, 5000, 30000):
            self.assertEqual(raised(read_snapshot, "9" * digits + " counted map"), bad(0))
            self.assertEqual(raised(read_snapshot, "1 counted map 1:" + "9" * digits), bad(0))

    def test_other_words(self):
        """A text in which one word is another one is the text of another snapshot, or none."""
        source = random.Random(183)
        good = 0
        words = ["root", "0", "1", "2", "7", "01", "k", "pin", "queue", "counted", "traced", "record",
                 "map", "weak", "0:1", "1:2", "5:0", "6:0", "2:-", "-", "none", "", "9" * 31]
        for shot in shots(source, 600):
            rows = show_snapshot(shot).split("\n")
            at = source.randrange(len(rows))
            row = rows[at].split(" ")
            there = show_snapshot(shot).replace("\n", " ").split(" ")
            row[source.randrange(len(row))] = source.choice(words + there)
            text = lines(*rows[:at], " ".join(row), *rows[at + 1:])
            error = raised(read_snapshot, text)
            if error is None:
                good += 1
                self.assertTrue(is_snapshot(read_snapshot(text)))
                self.assertEqual(show_snapshot(read_snapshot(text)), text)
            else:
                self.assertIn(error, (bad(at), bad(len(rows))))
        self.assertGreater(good, 30)

    def test_other_rows(self):
        source = random.Random(184)
        for shot in shots(source, 300):
            rows = show_snapshot(shot).split("\n")
            if len(rows) < 2:
                continue
            other = list(rows)
            source.shuffle(other)
            wanted = None if other == rows else bad(len(rows))
            self.assertEqual(raised(read_snapshot, lines(*other)), wanted)
            twice = rows + [source.choice(rows)]
            self.assertEqual(raised(read_snapshot, lines(*twice)), bad(len(twice)))


class TestKept(unittest.TestCase):
    def test_edges(self):
        for shot in (EMPTY, KEYED, SELF, SHOT):
            text = show_snapshot(shot)
            self.assertEqual(show_snapshot(shot), text)
            self.assertEqual(read_snapshot(text), read_snapshot(text))


if __name__ == "__main__":
    unittest.main()
