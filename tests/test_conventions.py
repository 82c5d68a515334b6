"""Section 2 and the interface: errors, arguments, what is not changed."""
import ast
import copy
import importlib
import inspect
import os
import unittest

from crossheaps import errors
from crossheaps.console import Console
from crossheaps.cuts import evidence, fewest_cuts, shows_cut, shows_evidence
from crossheaps.deaths import dies_with, dies_without, growth, keepers
from crossheaps.lean import lean, least_limit
from crossheaps.machine import Machine
from crossheaps.pages import emptied
from crossheaps.reasons import cost, reason, shows_reason
from crossheaps.scripts import check, read_script, show_script
from crossheaps.snapshots import alive, is_snapshot, links, snapshot
from crossheaps.states import resume, save
from crossheaps.texts import read_snapshot, show_snapshot
from tests.helpers import ANY, raised

ERRORS = {
    "BadRow": ["row"], "BadBlock": ["row"], "Twice": ["row"], "NoProcedure": ["row"],
    "WrongCount": ["row"], "BadPolicy": ["word"], "Fault": ["word", "row"],
    "NoObject": ["value"], "NoLink": ["value"], "TooMany": ["count"], "BadText": ["row"],
    "NoMark": [], "BadLine": ["line"],
}
INTERFACE = {
    "errors": ["HeapError"] + list(ERRORS),
    "scripts": ["read_script", "show_script", "check"],
    "machine": ["Machine"],
    "pages": ["emptied"],
    "lean": ["lean", "least_limit"],
    "snapshots": ["is_snapshot", "snapshot", "alive", "links"],
    "reasons": ["cost", "reason", "shows_reason"],
    "deaths": ["dies_with", "dies_without", "keepers", "growth"],
    "cuts": ["fewest_cuts", "evidence", "shows_cut", "shows_evidence"],
    "texts": ["show_snapshot", "read_snapshot"],
    "states": ["save", "resume"],
    "console": ["Console"],
}
# Their parameters, as the document writes them.
PARAMETERS = {
    "lean": "(rows)", "least_limit": "(text)", "is_snapshot": "(value)", "snapshot": "(machine)",
    "alive": "(snapshot)", "links": "(snapshot)", "cost": "(snapshot, number)",
    "reason": "(snapshot, number)", "shows_reason": "(snapshot, number, value)",
    "dies_with": "(snapshot, *numbers)", "dies_without": "(snapshot, *given)",
    "keepers": "(snapshot, number)", "growth": "(first, second)", "emptied": "(pages, moves)",
    "read_script": "(text)", "show_script": "(rows)", "check": "(rows)",
    "fewest_cuts": "(snapshot, victims, fixed=())", "evidence": "(snapshot, victims, fixed=())",
    "shows_cut": "(snapshot, victims, fixed, value)",
    "shows_evidence": "(snapshot, victims, fixed, count, value)",
    "show_snapshot": "(snapshot)", "read_snapshot": "(text)", "save": "(machine)",
    "resume": "(text)", "Console": "(*, young=None, start=None, pace=None, limit=None)",
    "Machine": "(*, young=None, start=None, pace=None, limit=None)",
}
SNAP = ((("x", 0), ("y", 1)), ((0, "traced", "map", ((1, 2),)), (1, "counted", "record", ()),
                               (2, "counted", "record", ())))
METHODS = ["__init__", "run", "told", "present", "variables", "queue", "candidates", "kept",
           "cycle", "pages", "next_number", "__getitem__", "count_of", "age_of", "proxy_of",
           "place_of", "__contains__", "__len__", "reach", "copy"]
PACKAGE = os.path.join(os.path.dirname(os.path.dirname(os.path.abspath(__file__))), "crossheaps")


def tree_of(name):
    with open(os.path.join(PACKAGE, name + ".py"), encoding="ascii") as file:
        return ast.parse(file.read())


class TestErrors(unittest.TestCase):
    def test_bases(self):
        self.assertEqual(errors.HeapError.__bases__, (ValueError,))
        for name in ERRORS:
            self.assertEqual(getattr(errors, name).__bases__, (errors.HeapError,), name)

    def test_no_other_errors(self):
        there = [name for name, value in vars(errors).items() if isinstance(value, type)]
        self.assertEqual(sorted(there), sorted(["HeapError"] + list(ERRORS)))

    def test_any_value_by_position_and_by_name(self):
        for name, words in ERRORS.items():
            make = getattr(errors, name)
            for value in ANY:
                values = [value] + [7] * (len(words) - 1)
                values = values[:len(words)]
                named = dict(zip(words, values))
                for error in (make(*values), make(**named)):
                    self.assertEqual(vars(error), named)
                    self.assertIsInstance(str(error), str)
                    for word in words:
                        self.assertIs(getattr(error, word), named[word])

    def test_no_default_values(self):
        for name, words in ERRORS.items():
            if words:
                with self.assertRaises(TypeError):
                    getattr(errors, name)()
        with self.assertRaises(TypeError):
            errors.NoMark(1)


class TestInterface(unittest.TestCase):
    def test_defined_in_its_file(self):
        for module, names in INTERFACE.items():
            body = tree_of(module).body
            defined = [node.name for node in body
                       if isinstance(node, (ast.FunctionDef, ast.ClassDef))]
            for name in names:
                self.assertIn(name, defined, module)

    def test_methods_in_the_class_itself(self):
        for name in METHODS:
            self.assertIn(name, vars(Machine))
        for name in ("__init__", "say"):
            self.assertIn(name, vars(Console))

    def test_by_name(self):
        rows = read_script(text="say 1\nsay 2")
        self.assertEqual(rows, (("say", "1"), ("say", "2")))
        self.assertEqual(show_script(rows=rows), "say 1\nsay 2")
        self.assertIsNone(check(rows=rows))
        self.assertEqual(emptied(pages=((3, 1, False), (5, 7, True)), moves=1), (3,))
        machine = Machine(young=1, start=10000, pace=2, limit=None)
        self.assertEqual(list(machine.run(text="say 1")), [("say", "1")])
        self.assertEqual(machine.told(text="let a = record counted 0\nlet b = map traced"),
                         (("page", 0, "young"),))
        self.assertEqual(machine.count_of(number=0), 1)
        self.assertEqual(machine.proxy_of(number=0), None)
        self.assertEqual(machine.age_of(number=1), 0)
        self.assertEqual(machine.place_of(number=1), (0, 0))
        self.assertEqual(machine.reach(), (0, 1))
        self.assertEqual(machine.copy().present, (0, 1))

    def test_parameters(self):
        for module, names in INTERFACE.items():
            for name in names:
                if name in PARAMETERS:
                    there = getattr(importlib.import_module("crossheaps." + module), name)
                    self.assertEqual(str(inspect.signature(there)), PARAMETERS[name])

    def test_snapshots_by_name(self):
        machine = Machine()
        machine.told("let a = map counted")
        self.assertEqual(snapshot(machine=machine), ((("a", 0),), ((0, "counted", "map", ()),)))
        self.assertEqual([alive(snapshot=SNAP), links(snapshot=SNAP), is_snapshot(value=SNAP)],
                         [(0, 1, 2), (("entry", 0, 1), ("root", "x"), ("root", "y")), True])
        self.assertEqual(cost(number=2, snapshot=SNAP), 3)
        pairs = reason(number=0, snapshot=SNAP)
        self.assertEqual(pairs, ((0, ("root", "x")),))
        self.assertIs(shows_reason(value=pairs, number=0, snapshot=SNAP), True)
        self.assertEqual(dies_with(SNAP, 0, 1), (0, 1, 2))
        self.assertEqual(dies_without(SNAP, ("root", "x")), (0, 2))
        self.assertEqual(keepers(number=2, snapshot=SNAP), (0, 1, 2))
        self.assertEqual(growth(second=SNAP, first=SNAP), ())
        self.assertEqual(lean(rows=read_script("let a = 1")), (("let", "a", "=", "1"), ("drop", "a")))
        self.assertEqual(least_limit(text="let a = map traced"), 1)
        for call in (dies_with, dies_without):
            with self.assertRaises(TypeError):
                call(SNAP, number=0)

    def test_cuts_texts_states_by_name(self):
        victims, fixed = (2,), (("root", "x"),)
        cut = fewest_cuts(SNAP, fixed=fixed, victims=victims)
        self.assertEqual(cut, (("entry", 0, 1),))
        parts = evidence(SNAP, victims, fixed=fixed)
        self.assertIs(shows_cut(SNAP, victims, fixed=fixed, value=cut), True)
        self.assertIs(shows_evidence(SNAP, victims, fixed, value=parts, count=1), True)
        self.assertEqual(read_snapshot(text=show_snapshot(snapshot=SNAP)), SNAP)
        machine = Machine(young=7)
        machine.told("let a = map traced")
        self.assertEqual(resume(text=save(machine=machine)).variables, machine.variables)
        self.assertEqual(Console(limit=3, pace=None).say(line="run say 1"), "say 1")
        for call in (shows_cut, shows_evidence):
            with self.assertRaises(TypeError):
                call(SNAP, victims)

    def test_policy_by_name_alone(self):
        for make in (Machine, Console):
            with self.assertRaises(TypeError):
                make(1)

    def test_wrong_names(self):
        for call in (lambda: read_script(script=""), lambda: emptied(pages=(), many=1),
                     lambda: Machine(old=1), lambda: Machine().told(script="")):
            with self.assertRaises(TypeError):
                call()


class TestNothingChanged(unittest.TestCase):
    def test_any_values(self):
        machine = Machine()
        machine.told("let a = record counted 1\nlet t = map traced")
        shot = snapshot(machine)
        kept = copy.deepcopy(shot)
        console = Console()
        calls = [is_snapshot, least_limit, lambda value: cost(shot, value),
                 lambda value: fewest_cuts(shot, (value,)), lambda value: evidence(shot, (), (value,)),
                 lambda value: shows_cut(shot, (0,), (), value), read_snapshot, resume,
                 lambda value: shows_evidence(shot, (0,), (), 1, value), console.say,
                 lambda value: Console(pace=value),
                 lambda value: reason(shot, value), lambda value: shows_reason(shot, 0, value),
                 lambda value: dies_with(shot, 0, value), lambda value: keepers(shot, value),
                 lambda value: dies_without(shot, ("root", "a"), value),
                 read_script, machine.told, machine.count_of, machine.age_of, machine.proxy_of,
                 machine.place_of, lambda value: machine[value], lambda value: value in machine,
                 lambda value: Machine(young=value), lambda value: Machine(limit=value)]
        for value in ANY:
            before = copy.deepcopy(value)
            for call in calls:
                raised(call, value)
                self.assertEqual(value, before)
        self.assertEqual(machine.present, (0, 1))
        self.assertEqual([shot, snapshot(machine)], [kept, kept])
        self.assertEqual(console.say("alive"), "-")

    def test_rows_and_pages(self):
        rows = read_script("proc p\nend\ndo p\nif 1 is 1\nelse\nend")
        check(rows)
        show_script(rows)
        lean(rows)
        self.assertEqual(rows, read_script("proc p\nend\ndo p\nif 1 is 1\nelse\nend"))
        pages = ((0, 3, False), (1, 2, False))
        emptied(pages, 9)
        self.assertEqual(pages, ((0, 3, False), (1, 2, False)))

    def test_equal_calls(self):
        machine = Machine()
        machine.told("let a = record counted 1\nlet t = map traced\nt at a = t")
        for _ in range(2):
            self.assertEqual(machine.reach(), (0, 1))
            self.assertEqual(machine[1], ("traced", "map", ((0, ("#", 1)),)))
            self.assertEqual(machine.pages, ((0, "young", (1,) + (None,) * 7),))
            self.assertEqual(emptied(((0, 3, False), (1, 2, False)), 9), (1,))
            self.assertEqual(least_limit("let a = map counted\nlet b = a"), 1)
            self.assertEqual(snapshot(machine), snapshot(machine.copy()))
            self.assertEqual(reason(SNAP, 2), reason(SNAP, 2))
            self.assertEqual(evidence(SNAP, (2,)), evidence(SNAP, (2,)))
            self.assertEqual(save(machine), save(machine.copy()))
            self.assertEqual(save(resume(save(machine))), save(machine))

    def test_what_is_returned_is_tuples(self):
        machine = Machine()
        events = machine.told("let a = record counted 1\nlet t = map traced\nt at a = t\nbegin")
        for value in (events, machine.present, machine.variables, machine.queue, machine.kept,
                      machine.candidates, machine.cycle, machine.pages, machine[0], machine[1],
                      machine.place_of(1), machine.reach(), read_script("say 1"), emptied((), 0),
                      snapshot(machine), *snapshot(machine), alive(SNAP), links(SNAP),
                      *links(SNAP), reason(SNAP, 2), *reason(SNAP, 2), dies_with(SNAP, 0),
                      dies_without(SNAP), keepers(SNAP, 2), growth(SNAP, SNAP), lean(()),
                      fewest_cuts(SNAP, (2,)), *fewest_cuts(SNAP, (2,)), evidence(SNAP, (2,)),
                      *evidence(SNAP, (2,)), *evidence(SNAP, (2,))[0], evidence(SNAP, ()),
                      read_snapshot(show_snapshot(SNAP)), *read_snapshot(show_snapshot(SNAP))):
            self.assertIsInstance(value, tuple)
        for event in events:
            self.assertIsInstance(event, tuple)


if __name__ == "__main__":
    unittest.main()
