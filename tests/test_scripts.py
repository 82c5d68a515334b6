"""Section 4: the forms of rows, and how they fit each other."""
import random
import unittest

from crossheaps.errors import HeapError
from crossheaps.scripts import check, read_script, show_script
from tests import model
from tests.helpers import ANY, lines, raised

GOOD = """let x = none
let x = 0
let x = -1
let x = 1000000000
let x = -1000000000
let x = y
let x = y.0
let x = y.5
let X = Y.3
let x = record counted 0
let x = record traced 6
let x = record traced 6 then bye
let x = weak counted y
let Abcdefgh = weak traced Y
let x = map counted
let x = map traced
let x = get y
let x = y at z
x.0 = none
x.5 = y
X.4 = -7
x at y = z
x at y = none
X at Y = 12
drop x
hold x
release x
pin x
unpin x
say none
say 5
say x
say x.2
say get x
say x at y
if x is y
if none is -5
if Abc is 1000000000
else
end
repeat 0
repeat 10000
proc p
proc p x
proc p p
proc p a b c d
do p
do p none 5 x Y -6
do p a b c d e f g h i j
minor
rings 0
rings 10000
begin
slice 0
slice 10000
compact 0
compact 10000
finalize
settle
let abcdefgh = z""".split("\n")

BAD = """
let
let x
let x =
let x = y z
let x == y
let = y
let x = -0
let x = 00
let x = 01
let x = +1
let x = 1000000001
let x = -1000000001
let x = 1.0
let x = y.6
let x = y.00
let x = y.01
let x = y.-1
let x = y.
let x = .0
let x = y.0.0
let x = 5.0
let x = none.0
let none = 1
let x.0 = 1
let x = record counted
let x = record counted 7
let x = record counted 06
let x = record counted -1
let x = record heap 1
let x = record 1
let x = record counted 1 then
let x = record counted 1 then Bye
let x = record counted 1 then none
let x = record counted 1 than bye
let x = record counted 1 then bye bye
let x = weak counted
let x = weak counted none
let x = weak counted 5
let x = weak counted y.0
let x = map
let x = map counted 1
let x = map counted then bye
let x = weak counted y then bye
let x = get
let x = get none
let x = get 5
let x = get y.0
let x = y at
let x = y at none
let x = y at 5
let x = y at z.0
let x = y is z
let aBc = 1
let ABc = 1
let abcdefghi = 1
let Abcdefghi = 1
let x1 = 1
let x_ = 1
let record = 1
let Let = 1 2
x = 1
x.0 = 
x.0 = y.0
x.0 = get y
x.0 == y
x.6 = y
x .0 = y
x at y = z.0
x at y = get z
x at none = z
x at 5 = z
5 at x = z
x at y
x at y is z
none.0 = 1
at at at = at
drop
drop none
drop 5
drop x y
drop x.0
hold 5
release none
pin x.0
unpin
say
say x y
say get
say get none
say x at
say x at 5
say 00
say "x"
if x is
if x y
if x is y z
if x.0 is y
if get x is y
if x = y
else x
end if
repeat
repeat -1
repeat 10001
repeat 01
repeat x
proc
proc P
proc p X
proc p x x
proc p a b a
proc p a b c d e
proc p none
proc p 5
proc p x.0
proc end
do
do P
do 5
do p x.0
do p get
do p record
do none
minor 1
rings
rings x
rings -1
rings 10001
begin 1
slice
slice 10001
slice none
compact
compact -1
finalize x
settle 5
Minor
MINOR
 minor
minor 
say  x
say x 
 say x
let x = record  counted 1
x
5
none
=
.
x.0
comment here""".split("\n")


class TestRows(unittest.TestCase):
    def test_good_rows(self):
        for row in GOOD:
            with self.subTest(row=row):
                self.assertEqual(read_script(row), (tuple(row.split(" ")),))

    def test_bad_rows(self):
        for row in BAD[1:]:
            with self.subTest(row=row):
                self.assertEqual(raised(read_script, row), ("BadRow", {"row": 0}))
                self.assertEqual(raised(read_script, "minor\n" + row), ("BadRow", {"row": 1}))

    def test_empty(self):
        self.assertEqual(read_script(""), ())
        self.assertEqual(show_script(()), "")
        self.assertIsNone(check(()))
        self.assertEqual(raised(read_script, "\n"), ("BadRow", {"row": 0}))
        self.assertEqual(raised(read_script, "minor\n"), ("BadRow", {"row": 1}))
        self.assertEqual(raised(read_script, "minor\n\nminor"), ("BadRow", {"row": 1}))
        self.assertEqual(raised(read_script, "\nminor"), ("BadRow", {"row": 0}))

    def test_first_row_counts(self):
        self.assertEqual(raised(read_script, "minor\nx\ny"), ("BadRow", {"row": 1}))

    def test_whole_text(self):
        rows = read_script("\n".join(GOOD))
        self.assertEqual(len(rows), len(GOOD))
        self.assertEqual(show_script(rows), "\n".join(GOOD))
        self.assertEqual(show_script(rows[3:5]), "\n".join(GOOD[3:5]))

    def test_any_value(self):
        for value in ANY:
            if not isinstance(value, str):
                self.assertEqual(raised(read_script, value), ("BadRow", {"row": 0}))
        self.assertEqual(read_script("let x = 1"), (("let", "x", "=", "1"),))

    def test_words_that_are_no_names(self):
        for word in sorted(model.TAKEN):
            for row in (f"let {word} = 1", f"drop {word}", f"proc p {word}", f"proc {word}",
                        f"let x = {word}.0", f"{word}.0 = 1", f"do {word}"):
                self.assertEqual(raised(read_script, row), ("BadRow", {"row": 0}), row)
            if word != "none":
                self.assertEqual(raised(read_script, f"say {word}"), ("BadRow", {"row": 0}))
            if len(word) < 8:
                self.assertEqual(len(read_script(f"let {word.capitalize()} = {word}a")), 1)
        self.assertEqual(read_script("let Let = Get"), (("let", "Let", "=", "Get"),))
        self.assertEqual(read_script("let None = lets"), (("let", "None", "=", "lets"),))

    def test_letters_of_names(self):
        for size in range(1, 11):
            for first in "bB":
                name = first + "z" * (size - 1)
                wanted = None if size <= 8 else ("BadRow", {"row": 0})
                self.assertEqual(raised(read_script, f"drop {name}"), wanted)

    def test_very_long_words(self):
        for word in ("1" * 5000, "-" + "1" * 5000, "0" * 5000, "x" * 5000, "x." + "1" * 5000):
            for row in (f"say {word}", f"rings {word}", f"let x = record counted {word}"):
                self.assertEqual(raised(read_script, row), ("BadRow", {"row": 0}))

    def test_against_the_model(self):
        source = random.Random(4)
        words = sorted(model.TAKEN) + ["x", "y", "X", "Abc", "x.0", "Y.5", "y.6", "=", "0", "-0",
                                       "-5", "6", "7", "10000", "10001", "1000000000", "", "p"]
        for _ in range(4000):
            row = list(source.choice(GOOD).split(" "))
            for _ in range(source.choice([0, 1, 1, 2])):
                kind = source.randrange(3)
                at = source.randrange(len(row))
                if kind == 0:
                    row[at] = source.choice(words)
                elif kind == 1:
                    row.insert(at, source.choice(words))
                elif len(row) > 1:
                    del row[at]
            text = " ".join(row)
            good = text != "" and model.has_form(row)
            if text == "":
                continue
            wanted = None if good else ("BadRow", {"row": 0})
            self.assertEqual(raised(read_script, text), wanted, text)


def checked(*rows):
    """(name of the error, row) of check, None if it accepts the rows."""
    found = raised(check, read_script(lines(*rows)))
    return found if found is None else (found[0], found[1]["row"])


class TestBlocks(unittest.TestCase):
    def test_accepted(self):
        self.assertIsNone(checked("if 1 is 1", "end", "if 1 is 1", "else", "end", "repeat 2",
                                  "if x is y", "repeat 1", "end", "else", "end", "end",
                                  "proc p", "repeat 1", "end", "end", "do p"))

    def test_end_without_block(self):
        self.assertEqual(checked("end"), ("BadBlock", 0))
        self.assertEqual(checked("repeat 1", "end", "end"), ("BadBlock", 2))

    def test_else(self):
        self.assertEqual(checked("else"), ("BadBlock", 0))
        self.assertEqual(checked("repeat 1", "else", "end"), ("BadBlock", 1))
        self.assertEqual(checked("proc p", "else", "end"), ("BadBlock", 1))
        self.assertEqual(checked("if 1 is 1", "else", "else", "end"), ("BadBlock", 2))
        self.assertEqual(checked("if 1 is 1", "repeat 1", "else", "end", "end"), ("BadBlock", 2))
        self.assertEqual(checked("if 1 is 1", "end", "else"), ("BadBlock", 2))
        self.assertIsNone(checked("if 1 is 1", "else", "if 1 is 1", "else", "end", "end"))

    def test_proc_in_a_block(self):
        for opener in ("if 1 is 1", "repeat 1", "proc q"):
            self.assertEqual(checked(opener, "proc p", "end", "end"), ("BadBlock", 1))

    def test_no_end(self):
        self.assertEqual(checked("if 1 is 1"), ("BadBlock", 1))
        self.assertEqual(checked("repeat 1", "say x"), ("BadBlock", 2))
        self.assertEqual(checked("proc p", "if 1 is 1", "else", "end"), ("BadBlock", 4))
        self.assertEqual(checked("repeat 1", "do p"), ("NoProcedure", 1))

    def test_blocks_within_blocks(self):
        for opener in ("if 1 is 1", "repeat 1"):
            for many in (7, 8, 9, 10):
                rows = [opener] * many + ["end"] * many
                self.assertEqual(checked(*rows), None if many <= 8 else ("BadBlock", 8))
                rows = ["proc p"] + [opener] * (many - 1) + ["end"] * many
                self.assertEqual(checked(*rows), None if many <= 8 else ("BadBlock", 8))
        rows = (["repeat 1"] * 8 + ["end"]) + ["repeat 1", "end"] * 3 + ["end"] * 7
        self.assertIsNone(checked(*rows))


class TestProcedures(unittest.TestCase):
    def test_twice(self):
        self.assertEqual(checked("proc p", "end", "proc p x", "end"), ("Twice", 2))
        self.assertEqual(checked("proc p", "end", "proc q", "end", "proc p", "end"), ("Twice", 4))
        self.assertEqual(checked("proc p", "proc p", "end", "end"), ("BadBlock", 1))

    def test_earlier_one_counts(self):
        rows = ["do p 1", "proc p x", "end", "proc p", "end"]
        self.assertEqual(checked(*rows), ("Twice", 3))
        self.assertEqual(checked(*(["do p"] + rows[1:])), ("WrongCount", 0))

    def test_no_procedure(self):
        self.assertEqual(checked("do p"), ("NoProcedure", 0))
        self.assertEqual(checked("let x = record counted 0 then p"), ("NoProcedure", 0))
        self.assertEqual(checked("proc q", "end", "do q", "do p"), ("NoProcedure", 3))

    def test_wrong_rows_count_as_procedures(self):
        self.assertEqual(checked("do p 1", "repeat 1", "proc p", "end", "end"), ("WrongCount", 0))
        self.assertEqual(checked("do p", "repeat 1", "proc p", "end", "end"), ("BadBlock", 2))
        self.assertEqual(checked("do p", "repeat 1", "proc p", "end"), ("BadBlock", 2))

    def test_ahead_of_their_rows(self):
        self.assertIsNone(checked("do p 1", "let x = record traced 0 then p", "proc p x",
                                  "do p x", "end"))

    def test_wrong_count(self):
        for many in range(5):
            proc = " ".join(["proc p", "a", "b", "c", "d"][:many + 1])
            for given in range(7):
                call = " ".join(["do p"] + ["1"] * given)
                wanted = None if many == given else ("WrongCount", 2)
                self.assertEqual(checked(proc, "end", call), wanted)
            wanted = None if many == 1 else ("WrongCount", 2)
            row = "let x = record traced 6 then p"
            self.assertEqual(checked(proc, "end", row), wanted)

    def test_least_row(self):
        self.assertEqual(checked("do p", "end"), ("NoProcedure", 0))
        self.assertEqual(checked("end", "do p"), ("BadBlock", 0))
        self.assertEqual(checked("proc p", "end", "do p 1", "proc p", "end"), ("WrongCount", 2))

    def test_procedures_and_variables_are_apart(self):
        self.assertIsNone(checked("proc p p", "say p", "end", "let p = 1", "do p p"))

    def test_against_the_model(self):
        source = random.Random(5)
        rows = ["if 1 is 1", "else", "end", "end", "end", "repeat 1", "proc p", "proc q x",
                "do p", "do p 1", "do q", "do q 1", "do r", "say 1",
                "let x = record counted 0 then q", "let x = record counted 0 then p"]
        for _ in range(6000):
            text = "\n".join(source.choice(rows) for _ in range(source.randint(1, 9)))
            try:
                model.check(model.rows_of(text))
                wanted = None
            except model.Wrong as wrong:
                wanted = (wrong.name, {"row": wrong.told[0]})
            self.assertEqual(raised(check, read_script(text)), wanted, text)

    def test_errors_are_ours(self):
        with self.assertRaises(HeapError):
            check(read_script("end"))


if __name__ == "__main__":
    unittest.main()
