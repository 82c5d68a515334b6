"""Section 14: snapshots, what is alive, and links."""
import random
import unittest

from crossheaps.machine import Machine
from crossheaps.snapshots import alive, is_snapshot, links, snapshot
from tests import plain
from tests.helpers import ANY, lines
from tests.shots import EMPTY, KEYED, SELF, chain, lived, shots


def of(text, **policy):
    machine = Machine(**policy)
    machine.told(text)
    return snapshot(machine)


def one(sort, parts, roots=()):
    """A snapshot of the objects 0 and 3, and of object 5 of this sort."""
    return (roots, ((0, "counted", "record", ()), (3, "traced", "record", ()),
                    (5, "traced", sort, parts)))


class TestIsSnapshot(unittest.TestCase):
    def test_any_value(self):
        # Where a value is put, and which of the values may stand there.
        places = [
            (lambda value: value, []), (lambda value: (value, value), [()]),
            (lambda value: ((), value), [()]), (lambda value: (value, ()), [()]),
            (lambda value: ((), (), value), []), (lambda value: ((value,), ()), []),
            (lambda value: ((), (value,)), []),
            (lambda value: ((), ((value, "counted", "record", ()),)), [10 ** 39]),
            (lambda value: ((), ((0, value, "record", ()),)), []),
            (lambda value: ((), ((0, "counted", value, ()),)), []),
            (lambda value: ((), ((0, "counted", "record", value),)), [()]),
            (lambda value: one("map", value), [()]), (lambda value: one("weak", value), [(), (0,)]),
            (lambda value: one("record", (value,)), []), (lambda value: one("map", (value,)), []),
            (lambda value: one("record", ((value, 3),)), []),
            (lambda value: one("record", ((1, value),)), []),
            (lambda value: one("map", ((value, 3),)), []),
            (lambda value: one("map", ((3, value),)), [None]),
            (lambda value: one("record", (), ((value, 3),)), ["a"]),
            (lambda value: one("record", (), (("a", value),)), []),
        ]
        for value in ANY:
            for make, good in places:
                fits = any(type(value) is type(other) and value == other for other in good)
                self.assertIs(is_snapshot(make(value)), fits, make(value))

    def test_good_ones(self):
        for shot in (EMPTY, KEYED, SELF, chain(5), one("record", ()), one("map", ()),
                     one("weak", ()), one("weak", (5,)), one("record", ((0, 3), (5, 3))),
                     one("map", ((0, None), (3, 5), (5, 5))),
                     ((), ((10 ** 39, "traced", "weak", (10 ** 39,)),)),
                     (((f"pin {10 ** 39}", 10 ** 39),), ((10 ** 39, "traced", "map", ()),))):
            self.assertIs(is_snapshot(shot), True, shot)

    def test_numbers(self):
        for number in (-1, True, False, None, "0", (0,)):
            self.assertFalse(is_snapshot(((), ((number, "counted", "record", ()),))))
        twice = ((2, "counted", "record", ()), (2, "counted", "record", ()))
        self.assertFalse(is_snapshot(((), twice)))
        falling = ((2, "counted", "record", ()), (1, "counted", "record", ()))
        self.assertFalse(is_snapshot(((), falling)))
        self.assertTrue(is_snapshot(((), falling[::-1])))
        self.assertFalse(is_snapshot(((), list(falling[::-1]))))
        self.assertFalse(is_snapshot([(), falling[::-1]]))
        self.assertFalse(is_snapshot(((), (list(falling[0]),))))
        self.assertFalse(is_snapshot(((), falling[:1], ())))
        self.assertFalse(is_snapshot(((), ((2, "counted", "record"),))))
        self.assertFalse(is_snapshot(((), ((2, "counted", "record", (), ()),))))

    def test_homes_and_sorts(self):
        for home in ("counted", "traced"):
            for sort in ("record", "weak", "map"):
                self.assertTrue(is_snapshot(((), ((2, home, sort, ()),))))
        for home, sort in (("Counted", "record"), ("", "map"), ("counted", "Map"),
                           ("record", "counted"), ("counted", "entry"), (0, "map")):
            self.assertFalse(is_snapshot(((), ((2, home, sort, ()),))))

    def test_slots(self):
        for parts in (((6, 0),), ((-1, 0),), ((True, 0),), ((0, 1),), ((0, None),), ((0, True),),
                      ((1, 0), (0, 0)), ((1, 0), (1, 3)), ((0, 0, 0),), ((0,),), (0,), [(0, 0)],
                      ([0, 0],), ((0, False),)):
            self.assertFalse(is_snapshot(one("record", parts)), parts)

    def test_entries(self):
        for parts in (((1, 0),), ((True, 0),), ((False, 0),), ((0, 1),), ((0, True),),
                      ((0, False),), ((None, 0),), ((3, 0), (0, 0)), ((3, 0), (3, None)),
                      ((0, 0, 0),), ((0,),), (0,), [(0, 0)], ([0, 0],)):
            self.assertFalse(is_snapshot(one("map", parts)), parts)

    def test_targets(self):
        for parts in ((1,), (True,), (None,), (0, 3), (0, 0), [0], ((0,),), None):
            self.assertFalse(is_snapshot(one("weak", parts)), parts)

    def test_roots(self):
        for root in ("a", "Z", "abcdefgh", "Abcdefgh", "Pin", "queue", "root", "pin 3", "hold 3",
                     "queue 3"):
            self.assertTrue(is_snapshot(one("record", (), ((root, 3),))), root)
        wrong = ("", "none", "get", "map", "abcdefghi", "aB", "a1", "a ", " a", "pin 0", "pin 03",
                 "pin  3", "pin 3 ", "Pin 3", "queue -3", "hold", "pin", "queue 33", "say 3",
                 "a 3", 3, None, ("a",), "a\n")
        for root in wrong:
            self.assertFalse(is_snapshot(one("record", (), ((root, 3),))), root)
        for roots in ((("a", 1),), (("a", True),), (("a", None),), (("a", 3), ("a", 3)),
                      (("a", 0), ("a", 3)), (("b", 3), ("a", 3)), (("a",),), (("a", 3, 3),),
                      (["a", 3],), [("a", 3)], (("a", 3), ("Z", 3)), ("a", 3)):
            self.assertFalse(is_snapshot(one("record", (), roots)), roots)
        self.assertTrue(is_snapshot(one("record", (), (
            ("Z", 3), ("a", 3), ("hold 3", 3), ("pin 0", 0), ("pin 3", 3), ("queue 5", 5)))))

    def test_four_hundred_objects(self):
        self.assertTrue(is_snapshot(chain(399)))
        self.assertTrue(is_snapshot(chain(400)))
        self.assertFalse(is_snapshot(chain(401)))


class TestSnapshot(unittest.TestCase):
    def test_empty(self):
        self.assertEqual(of(""), EMPTY)
        self.assertEqual(of("let a = 1\nlet b = none\nlet c = record counted 1\ndrop c"), EMPTY)

    def test_parts(self):
        text = lines("let a = record counted 6", "let M = map traced", "let w = weak traced a",
                     "let v = weak counted w", "a.5 = M", "a.1 = 7", "a.2 = w", "a.0 = a",
                     "M at w = 5", "M at M = M", "M at a = v")
        self.assertEqual(of(text), (
            (("M", 1), ("a", 0), ("v", 3), ("w", 2)),
            ((0, "counted", "record", ((0, 0), (2, 2), (5, 1))),
             (1, "traced", "map", ((0, 3), (1, 1), (2, None))),
             (2, "traced", "weak", (0,)), (3, "counted", "weak", (2,)))))
        self.assertEqual(of(text + "\nM at M = none\ndrop v\nM at a = 0\na.0 = none\na.2 = 0\nminor"), (
            (("M", 1), ("a", 0), ("w", 2)),
            ((0, "counted", "record", ((5, 1),)), (1, "traced", "map", ((0, None), (2, None))),
             (2, "traced", "weak", (0,)))))

    def test_cleared_weak_and_gaps(self):
        text = lines("let a = record counted 0", "let b = record counted 0", "let w = weak counted b",
                     "drop b", "let c = a")
        self.assertEqual(of(text), ((("a", 0), ("c", 0), ("w", 2)), (
            (0, "counted", "record", ()), (2, "counted", "weak", ()))))

    def test_each_root_once(self):
        text = lines("proc p x", "say x", "end", "let a = record counted 0 then p", "pin a", "pin a",
                     "hold a", "hold a", "hold a", "let Be = a", "let b = record counted 0 then p",
                     "drop b")
        shot = of(text)
        self.assertEqual(shot[0], (("Be", 0), ("a", 0), ("hold 0", 0), ("pin 0", 0),
                                   ("queue 1", 1)))
        shot = of(text + "\nunpin a\nrelease a\nunpin a\nfinalize")
        self.assertEqual(shot[0], (("Be", 0), ("a", 0), ("hold 0", 0)))

    def test_objects_that_no_root_leads_to(self):
        text = lines("let a = record counted 1", "let t = record traced 1", "a.0 = t", "t.0 = a",
                     "drop a", "drop t")
        shot = of(text)
        self.assertEqual(shot, ((), ((0, "counted", "record", ((0, 1),)),
                                     (1, "traced", "record", ((0, 0),)))))
        self.assertEqual([alive(shot), links(shot)], [(), ()])

    def test_four_hundred(self):
        machine = Machine()
        machine.told(lines("repeat 400", "let a = record counted 1", "a.0 = b", "let b = a",
                           "end").replace("repeat", "let b = none\nrepeat"))
        shot = snapshot(machine)
        self.assertEqual(len(shot[1]), 400)
        self.assertTrue(is_snapshot(shot))
        self.assertEqual(alive(shot), tuple(range(400)))
        machine.told("let c = record counted 0")
        self.assertFalse(is_snapshot(snapshot(machine)))

    def test_machines(self):
        source = random.Random(14)
        for _ in range(60):
            machine = lived(source, 60)
            shot = snapshot(machine)
            self.assertTrue(is_snapshot(shot))
            self.assertEqual(shot, snapshot(machine=machine))
            self.assertEqual(tuple(row[0] for row in shot[1]), machine.present)
            self.assertEqual(alive(shot), machine.reach())
            for number, home, sort, parts in shot[1]:
                self.assertEqual((home, sort), machine[number][:2])
                wanted = machine[number][2]
                if sort == "record":
                    wanted = tuple((at, value[1]) for at, value in enumerate(wanted)
                                   if isinstance(value, tuple))
                if sort == "map":
                    wanted = tuple((key, value[1] if isinstance(value, tuple) else None)
                                   for key, value in wanted)
                self.assertEqual(parts, wanted)
            names = [(name, value[1]) for name, value in machine.variables
                     if isinstance(value, tuple)]
            self.assertEqual([root for root in shot[0] if " " not in root[0]], names)
            queued = {(f"queue {number}", number) for number in machine.queue}
            self.assertEqual({root for root in shot[0] if root[0][:5] == "queue"}, queued)


class TestAliveAndLinks(unittest.TestCase):
    def test_edges(self):
        self.assertEqual([alive(EMPTY), links(EMPTY)], [(), ()])
        # The key lives by the value alone, so that neither is alive.
        self.assertEqual([alive(KEYED), links(KEYED)], [(0,), (("root", "m"),)])
        self.assertEqual(alive(SELF), (7, 9, 12))
        self.assertEqual(links(SELF), (("entry", 7, 7), ("root", "m"), ("slot", 9, 3),
                                       ("slot", 9, 5)))

    def test_key_behind_its_map(self):
        shot = ((("k", 2), ("m", 0)), ((0, "traced", "map", ((1, 3), (2, 1))),
                                       (1, "counted", "record", ()), (2, "counted", "record", ()),
                                       (3, "counted", "record", ())))
        self.assertEqual(alive(shot), (0, 1, 2, 3))
        self.assertEqual(links(shot), (("entry", 0, 1), ("entry", 0, 2), ("root", "k"),
                                       ("root", "m")))

    def test_weak_objects_lead_nowhere(self):
        shot = ((("w", 0),), ((0, "traced", "weak", (1,)), (1, "counted", "record", ())))
        self.assertEqual([alive(shot), links(shot)], [(0,), (("root", "w"),)])

    def test_links_of_what_is_alive_alone(self):
        shot = ((("m", 0),), ((0, "traced", "map", ((0, None), (1, 0))),
                              (1, "counted", "record", ((2, 0),))))
        self.assertEqual([alive(shot), links(shot)], [(0,), (("root", "m"),)])

    def test_drawn(self):
        for shot in shots(random.Random(3), 400):
            self.assertTrue(is_snapshot(shot), shot)
            self.assertEqual(alive(shot), tuple(sorted(plain.alive(shot))), shot)
            self.assertEqual(links(shot), plain.links(shot), shot)

    def test_large(self):
        self.assertEqual(alive(chain(400)), tuple(range(400)))
        self.assertEqual(len(links(chain(400))), 400)


if __name__ == "__main__":
    unittest.main()
