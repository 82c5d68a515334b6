"""Section 19: the console."""
import random
import unittest

from crossheaps.console import Console
from crossheaps.cuts import fewest_cuts
from crossheaps.deaths import dies_with, growth, keepers
from crossheaps.machine import Machine
from crossheaps.reasons import reason
from crossheaps.snapshots import alive, snapshot
from tests.helpers import ANY, raised
from tests.makers import CLOSING, RowMaker, begun, policy_of
from tests.test_random import row_of

KEYED = ("run proc bye x; say x; end; let a = record counted 2 then bye; let m = map traced; "
         "let k = record counted 0; m at k = a; let z = record counted 0 then bye; drop z; "
         "pin m; hold k; drop m; drop k; drop a")


def bad(line):
    return ("BadLine", {"line": line})


def said(console, *given):
    return [console.say(line) for line in given]


def link_text(link):
    """A link as the document writes it."""
    if link[0] == "root":
        return ":".join(link[1].split(" "))
    return f"{link[1]}.{link[2]}" if link[0] == "slot" else f"{link[1]}[{link[2]}]"


def text_of(parts):
    return " ".join(parts) or "-"


class TestPolicy(unittest.TestCase):
    def test_any_value(self):
        words = ["young", "start", "pace", "limit"]
        for value in ANY + [0, 1, 10000, 10001]:
            for at, word in enumerate(words):
                wanted = raised(Machine, **{word: value})
                self.assertEqual(raised(Console, **{word: value}), wanted)
                more = {later: "x" for later in words[at + 1:]}
                if wanted is not None:
                    self.assertEqual(wanted, ("BadPolicy", {"word": word}))
                    self.assertEqual(raised(Console, **{word: value}, **more), wanted)

    def test_by_name_alone(self):
        with self.assertRaises(TypeError):
            Console(1)
        with self.assertRaises(TypeError):
            Console().say(text="alive")
        self.assertEqual(Console(young=None, start=None, pace=None, limit=None).say(line="alive"), "-")

    def test_works(self):
        console = Console(limit=1)
        self.assertEqual(console.say("run let a = record counted 0"), "-")
        self.assertEqual(raised(console.say, "run let b = map counted"),
                         ("Fault", {"word": "full", "row": 0}))
        self.assertEqual(Console(young=1).say("run let a = map traced; let b = map traced; say 1"),
                         "page 0 young, minor, say 1")


class TestRun(unittest.TestCase):
    def test_events(self):
        console = Console()
        self.assertEqual(console.say("run say 1"), "say 1")
        self.assertEqual(console.say("run let a = record traced 0; say a; say none; say -5"),
                         "page 0 young, say #0, say none, say -5")
        self.assertEqual(console.say("run minor; minor; compact 5"),
                         "minor, minor, old 0, page 1 old, move 0 1 0, back 0")
        self.assertEqual(console.say("run let w = weak counted a; let m = map counted; m at a = 7; "
                                     "drop a; begin; slice 3"),
                         "minor, begin, finish, clear 1, unkey 2 0, free 0, back 1")
        self.assertEqual(console.say("run let b = map counted"), "-")

    def test_closing_events(self):
        console = Console()
        told = console.say("run proc p x; say x; end; let a = record counted 0 then p; drop a; "
                           "finalize; let c = record counted 0; let t = record traced 1; t.0 = c; "
                           "drop c; t.0 = none; minor")
        self.assertEqual(told, "queue 0, close 0, say #0, free 0, page 0 young, minor, unproxy 1, free 1")

    def test_empty_script(self):
        self.assertEqual(said(Console(), "run ", "run say 1", "run "), ["-", "say 1", "-"])
        self.assertEqual(raised(Console().say, "run"), bad("run"))
        self.assertEqual(raised(Console().say, "run  "), ("BadRow", {"row": 0}))

    def test_separators(self):
        console = Console()
        self.assertEqual(console.say("run say 1; say 2; say 3"), "say 1, say 2, say 3")
        for line, row in (("run say 1;say 2", 0), ("run say 1 ; say 2", 0), ("run say 1; ", 1),
                          ("run ; say 1", 0), ("run ; ", 0), ("run say 1;", 0), ("run say 1;  say 2", 1),
                          ("run say 1; say 2; ; say 3", 2), ("run  say 1", 0), ("run say 1 ", 0),
                          ("run run say 1", 0), ("run say 1; alive", 1), ("run ;", 0), ("run x", 0)):
            self.assertEqual(raised(console.say, line), ("BadRow", {"row": row}), line)

    def test_errors_of_scripts(self):
        console = Console()
        for line, error in (
                ("run say 1; end", ("BadBlock", {"row": 1})),
                ("run if 1 is 1; say 1", ("BadBlock", {"row": 2})),
                ("run proc p; end; proc p; end", ("Twice", {"row": 2})),
                ("run say 1; do p", ("NoProcedure", {"row": 1})),
                ("run proc p; end; say 1; do p 1", ("WrongCount", {"row": 3})),
                ("run say 1; let b = 7; say a", ("Fault", {"word": "unset", "row": 2}))):
            self.assertEqual(raised(console.say, line), error, line)
        # What was done before stays done, and nothing of it is told later.
        self.assertEqual(said(console, "run say b", "run "), ["say 7", "-"])

    def test_no_line_feeds(self):
        for line in ("run say 1\nsay 2", "run \n", "\nrun say 1", "run say 1\n", "alive\n", "\n"):
            self.assertEqual(raised(Console().say, line), bad(line))


class TestLines(unittest.TestCase):
    def test_any_value(self):
        console = Console()
        console.say("run let a = record counted 1")
        for value in ANY:
            self.assertEqual(raised(console.say, value), bad(value), value)
        with self.assertRaises(ValueError) as caught:
            console.say([1])
        self.assertEqual(caught.exception.line, [1])
        self.assertEqual(console.say("alive"), "0")

    def test_forms(self):
        console = Console()
        console.say("run let a = record counted 1")
        wrong = ["", " ", "why", "why ", "why  0", "why 0 ", " why 0", "why 00", "why 01", "why -1",
                 "why a", "why 0 0", "why 1000000000", "why 0000000001", "Why 0", "why0", "why 1.0",
                 "dies", "dies 0 0", "dies x", "keepers", "keepers 0 0", "keepers 00", "alive 0",
                 "alive ", " alive", "Alive", "cut", "cut ", "cut 0 ", "cut  0", "cut 0  0",
                 "cut 00", "cut 0 x", "cut 0 01", "cut 0 1234567890", "pages 0", "pages ", "page",
                 "mark 0", "mark ", "growth 0", "growth ", "say 1", "minor", "RUN say 1", "0",
                 "help", "why #0", "cut #0", "why none", "marks", "dies +1", "cut -"]
        for line in wrong:
            self.assertEqual(raised(console.say, line), bad(line), line)
        self.assertEqual(raised(console.say, "growth 0"), bad("growth 0"))
        self.assertEqual(raised(console.say, "growth"), ("NoMark", {}))

    def test_no_object(self):
        console = Console()
        console.say("run let a = record counted 0; let b = record counted 0; drop a")
        for word in ("why", "dies", "keepers", "cut"):
            for number in (0, 2, 999999999):
                self.assertEqual(raised(console.say, f"{word} {number}"),
                                 ("NoObject", {"value": number}))
        self.assertEqual(raised(console.say, "cut 1 5 0"), ("NoObject", {"value": 5}))
        self.assertEqual(said(console, "why 1", "cut 1 1", "dies 1"), ["1<b", "b", "1"])


class TestAnswers(unittest.TestCase):
    def test_empty_machine(self):
        console = Console()
        self.assertEqual(said(console, "alive", "pages", "mark", "growth", "run "),
                         ["-", "-", "done", "-", "-"])

    def test_links(self):
        console = Console()
        console.say(KEYED)
        # Object 0 is the value of the entry of the map 1 for the key 2.
        self.assertEqual(console.say("why 1"), "1<pin:1")
        self.assertEqual(console.say("why 2"), "2<hold:2")
        self.assertEqual(console.say("why 3"), "3<queue:3")
        self.assertEqual(console.say("why 0").split(" ")[2], "0<1[2]")
        self.assertEqual(set(console.say("why 0").split(" ")[:2]), {"1<pin:1", "2<hold:2"})
        self.assertEqual(said(console, "cut 0", "cut 0 1", "cut 0 2 3", "cut 3"),
                         ["1[2]", "pin:1", "hold:2 queue:3", "queue:3"])
        self.assertEqual(said(console, "dies 1", "dies 2", "keepers 0", "keepers 3", "alive"),
                         ["0 1", "0 2", "0 1 2", "3", "0 1 2 3"])

    def test_roots_that_are_called_so(self):
        console = Console()
        console.say("run let queue = record counted 1; let Pin = record counted 0; queue.0 = Pin; "
                    "let hat = queue; drop Pin")
        self.assertEqual(said(console, "why 0", "why 1", "cut 0", "cut 1"),
                         ["0<hat", "0<hat 1<0.0", "hat queue", "0.0"])

    def test_not_alive(self):
        console = Console()
        console.say("run let a = record traced 0; drop a; let b = map counted")
        self.assertEqual(said(console, "why 0", "dies 0", "keepers 0", "cut 0", "alive"),
                         ["-", "-", "-", "-", "1"])

    def test_too_many(self):
        console = Console()
        rows = ["let m = map counted", "let v = record counted 0"]
        for name in "abcde":
            rows += [f"let {name} = record counted 0", f"m at {name} = v"]
        console.say("run " + "; ".join(rows + ["drop v"]))
        self.assertEqual(raised(console.say, "cut 1"), ("TooMany", {"count": 5}))
        self.assertEqual(console.say("cut 0"), "m")
        console.say("run drop a")
        self.assertEqual(console.say("cut 1"), "m")
        many = Console()
        many.say("run let a = none; repeat 121; let b = record counted 1; b.0 = a; let a = b; end; drop b")
        self.assertEqual(raised(many.say, "cut 0"), ("TooMany", {"count": 121}))
        self.assertEqual(many.say("run let a = a.0"), "free 120")
        self.assertEqual(many.say("cut 0"), "a")

    def test_pages(self):
        console = Console()
        console.say("run let a = none; repeat 9; let b = record traced 1; b.0 = a; let a = b; end")
        self.assertEqual(console.say("pages"), "0:young:8 1:young:1")
        console.say("run pin a; minor; minor")
        self.assertEqual(console.say("pages"), "1:young:1 2:old:8")
        console.say("run unpin a; drop a; drop b; settle")
        self.assertEqual(console.say("pages"), "-")

    def test_growth(self):
        console = Console()
        self.assertEqual(raised(console.say, "growth"), ("NoMark", {}))
        start = "let a = record counted 3; let b = record counted 2; a.0 = b; drop b"
        self.assertEqual(said(console, "run " + start, "mark", "growth"), ["-", "done", "-"])
        console.say("run let b = a.0; let c = map counted; b.0 = c; let d = map counted; "
                    "a.1 = d; drop b; drop c; drop d")
        self.assertEqual(console.say("growth"), "2:0 1:1")
        self.assertEqual(said(console, "mark", "growth", "growth"), ["done", "-", "-"])
        console.say("run let e = record counted 0; a.2 = e; drop e")
        self.assertEqual(console.say("growth"), "1:0")
        # The mark is that of then.
        console.say("run drop a")
        self.assertEqual(said(console, "growth", "alive"), ["-", "-"])

    def test_marks_are_the_consoles_own(self):
        one, other = Console(), Console()
        one.say("mark")
        self.assertEqual(raised(other.say, "growth"), ("NoMark", {}))
        one.say("run let a = map counted")
        self.assertEqual(said(other, "alive", "mark"), ["-", "done"])
        self.assertEqual(one.say("alive"), "0")

    def test_asking_changes_nothing(self):
        console, other = Console(), Console()
        for one in (console, other):
            one.say(KEYED)
        before = said(console, "alive", "pages", "why 0", "cut 0", "dies 1", "keepers 0", "mark", "growth")
        self.assertEqual(said(console, "alive", "pages", "why 0", "cut 0", "dies 1", "keepers 0", "mark",
                              "growth"), before)
        self.assertEqual(console.say("run settle"), other.say("run settle"))


class TestBesideAMachine(unittest.TestCase):
    def check(self, console, machine, first, numbers):
        """The answers of the lines beside what the functions return."""
        shot = snapshot(machine)
        self.assertEqual(console.say("alive"), text_of([str(n) for n in alive(shot)]))
        pages = [f"{page}:{kind}:{sum(cell is not None for cell in cells)}"
                 for page, kind, cells in machine.pages]
        self.assertEqual(console.say("pages"), text_of(pages))
        wanted = text_of([f"{many}:{number}" for many, number in growth(first, shot)])
        self.assertEqual(console.say("growth"), wanted)
        for number in numbers:
            pairs = reason(shot, number) or ()
            self.assertEqual(console.say(f"why {number}"),
                             text_of([f"{other}<{link_text(link)}" for other, link in pairs]))
            for word, call in (("dies", dies_with), ("keepers", keepers)):
                self.assertEqual(console.say(f"{word} {number}"),
                                 text_of([str(n) for n in call(shot, number)]))
        victims = tuple(numbers)
        if victims:
            line = "cut " + " ".join([str(number) for number in victims])
            error = raised(fewest_cuts, shot, victims)
            if error is None:
                links = fewest_cuts(shot, victims)
                self.assertEqual(console.say(line), text_of([link_text(link) for link in links]))
            else:
                self.assertEqual(raised(console.say, line), error)

    def test_drawn(self):
        told = 0
        for seed in range(50):
            source = random.Random(seed)
            policy = policy_of(source) if seed % 2 else {}
            console, machine = Console(**policy), Machine(**policy)
            maker = RowMaker(source, CLOSING + ["calm", "fail"], {"hold": 2, "pin": 2})
            text = begun()
            first = snapshot(machine)
            self.assertEqual(console.say("mark"), "done")
            for at in range(40):
                line = "run " + text.replace("\n", "; ")
                error = raised(machine.copy().told, text)
                if error is None:
                    events = machine.told(text)
                    told += len(events)
                    wanted = ", ".join([" ".join([str(part) for part in event]) for event in events])
                    self.assertEqual(console.say(line), wanted or "-", (seed, text))
                else:
                    self.assertEqual(raised(machine.told, text), error)
                    self.assertEqual(raised(console.say, line), error)
                if at == 20:
                    first = snapshot(machine)
                    self.assertEqual(console.say("mark"), "done")
                if at % 8 == 7:
                    there = machine.present
                    self.check(console, machine, first, source.sample(there, min(3, len(there))))
                text = row_of(maker, machine)
        self.assertGreater(told, 500)


if __name__ == "__main__":
    unittest.main()
