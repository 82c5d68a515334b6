"""Section 16: deaths, keepers and growth."""
import random
import unittest

from crossheaps.deaths import dies_with, dies_without, growth, keepers
from crossheaps.snapshots import alive, is_snapshot, links, snapshot
from tests import plain
from tests.helpers import ANY, ended, raised
from tests.shots import EMPTY, KEYED, SELF, chain, drawn, grown, lived, shots, wide

SHOT = ((("k", 1), ("m", 0)), (
    (0, "traced", "map", ((1, 2),)), (1, "counted", "record", ()),
    (2, "traced", "record", ((0, 3),)), (3, "counted", "record", ())))
# Two ways to 3; 4 needs both 1 and 2.
WAYS = ((("a", 0),), (
    (0, "counted", "record", ((0, 1), (1, 2), (2, 5))), (1, "counted", "record", ((0, 3),)),
    (2, "counted", "record", ((0, 3),)), (3, "counted", "record", ()),
    (4, "counted", "record", ()), (5, "traced", "map", ((1, 6), (6, 4))),
    (6, "traced", "record", ((0, 2),)), (7, "counted", "record", ((0, 7),))))


class TestDiesWith(unittest.TestCase):
    def test_ways(self):
        self.assertEqual(dies_with(WAYS, 0), (0, 1, 2, 3, 4, 5, 6))
        self.assertEqual(dies_with(WAYS, 1), (1, 4, 6))
        self.assertEqual(dies_with(WAYS, 2), (2,))
        self.assertEqual(dies_with(WAYS, 1, 2), (1, 2, 3, 4, 6))
        self.assertEqual(dies_with(WAYS, 2, 1, 2), (1, 2, 3, 4, 6))
        self.assertEqual(dies_with(WAYS, 3), (3,))
        self.assertEqual(dies_with(WAYS, 7), ())
        self.assertEqual(dies_with(WAYS, 7, 3), (3,))
        self.assertEqual(dies_with(WAYS), ())
        self.assertEqual(dies_with(EMPTY), ())

    def test_edges(self):
        self.assertEqual([dies_with(KEYED, n) for n in (0, 1, 2, 4)], [(0,), (), (), ()])
        self.assertEqual([dies_with(SELF, n) for n in (7, 9, 12, 30)],
                         [(7, 9, 12), (9, 12), (12,), ()])

    def test_roots_to_it_are_no_help(self):
        shot = ((("a", 0), ("b", 0), ("hold 0", 0)), ((0, "counted", "record", ((0, 0),)),))
        self.assertEqual(dies_with(shot, 0), (0,))

    def test_no_object(self):
        for value in ANY + [False, True, 8, -1]:
            wanted = ("NoObject", {"value": value})
            self.assertEqual(raised(dies_with, WAYS, value), wanted)
            self.assertEqual(raised(dies_with, WAYS, 1, 7, value, 8), wanted)
            self.assertEqual(raised(dies_with, WAYS, value, "other"), wanted)
            self.assertEqual(raised(keepers, WAYS, value), wanted)
            self.assertEqual(raised(dies_with, EMPTY, value), wanted)
        self.assertEqual(raised(dies_with, WAYS, 10, 9), ("NoObject", {"value": 10}))

    def test_drawn(self):
        source = random.Random(21)
        for shot in shots(source, 250):
            numbers = [row[0] for row in shot[1]]
            for number in numbers:
                self.assertEqual(dies_with(shot, number), plain.dies_with(shot, number), shot)
            for _ in range(4 if numbers else 0):
                chosen = source.choices(numbers, k=source.randint(0, 4))
                self.assertEqual(dies_with(shot, *chosen), plain.dies_with(shot, *chosen), shot)


class TestDiesWithout(unittest.TestCase):
    def test_ways(self):
        self.assertEqual(dies_without(WAYS, ("root", "a")), (0, 1, 2, 3, 4, 5, 6))
        self.assertEqual(dies_without(WAYS, ("slot", 0, 0)), (1, 4, 6))
        self.assertEqual(dies_without(WAYS, ("slot", 1, 0)), ())
        self.assertEqual(dies_without(WAYS, ("slot", 1, 0), ("slot", 2, 0)), (3,))
        self.assertEqual(dies_without(WAYS, ("entry", 5, 6)), (4,))
        self.assertEqual(dies_without(WAYS, ("entry", 5, 1)), (4, 6))
        self.assertEqual(dies_without(WAYS, ("slot", 0, 1)), ())
        self.assertEqual(dies_without(WAYS, ("slot", 0, 1), ("entry", 5, 1)), (2, 4, 6))
        self.assertEqual(dies_without(WAYS), ())
        self.assertEqual(dies_without(EMPTY), ())

    def test_one_of_two_roots(self):
        shot = ((("a", 0), ("b", 0)), ((0, "counted", "record", ()),))
        self.assertEqual(dies_without(shot, ("root", "a")), ())
        self.assertEqual(dies_without(shot, ("root", "a"), ("root", "b"), ("root", "a")), (0,))

    def test_no_link(self):
        wrong = [("slot", 7, 0), ("slot", 0, 3), ("entry", 5, 2), ("root", "b"), ("root", 0),
                 ("slot", False, 0), ("slot", 0, False), ("slot", True, 0), ("entry", 5, True),
                 ["slot", 0, 0], ("slot", 0), ("slot", 0, 0, 0), ("root",), ("root", "a", "a"),
                 ("entry", 0, 0), ("slot", 5, 1), ("a", "root"), ("slot", [0], 0), ("slot", 0, {}),
                 ("root", ["a"]), ("root", None), ("entry", (), 1)]
        for value in ANY + wrong:
            wanted = ("NoLink", {"value": value})
            self.assertEqual(raised(dies_without, WAYS, value), wanted)
            self.assertEqual(raised(dies_without, WAYS, ("root", "a"), value, ("root", "b")), wanted)
            self.assertEqual(raised(dies_without, EMPTY, value), wanted)
        with self.assertRaises(ValueError) as caught:
            dies_without(WAYS, wrong[9], 5)
        self.assertIs(caught.exception.value, wrong[9])

    def test_entries_that_links_has_not(self):
        for value in (("entry", 0, 1), ("entry", 0, 4), ("slot", 2, 0), ("root", "n")):
            self.assertEqual(raised(dies_without, KEYED, value), ("NoLink", {"value": value}))

    def test_drawn(self):
        source = random.Random(22)
        for shot in shots(source, 250):
            there = links(shot)
            for link in there:
                self.assertEqual(dies_without(shot, link), plain.dies_without(shot, link), shot)
            for _ in range(4 if there else 0):
                chosen = source.choices(there, k=source.randint(0, 5))
                self.assertEqual(dies_without(shot, *chosen), plain.dies_without(shot, *chosen))


class TestKeepers(unittest.TestCase):
    def test_ways(self):
        self.assertEqual([keepers(WAYS, number) for number in range(8)],
                         [(0,), (0, 1), (0, 2), (0, 3), (0, 1, 4, 5, 6), (0, 5), (0, 1, 5, 6), ()])

    def test_edges(self):
        self.assertEqual([keepers(KEYED, n) for n in (0, 1, 2, 4)], [(0,), (), (), ()])
        self.assertEqual([keepers(SELF, n) for n in (7, 9, 12, 30)],
                         [(7,), (7, 9), (7, 9, 12), ()])

    def test_large(self):
        self.assertEqual(keepers(chain(400), 399), tuple(range(400)))
        back = tuple((n, "counted", "record", ((0, (n + 399) % 400), (1, (n + 1) % 400)))
                     for n in range(400))
        self.assertEqual(keepers(((("a", 0),), back), 200), (0, 200))
        self.assertEqual(keepers(((("a", 0), ("b", 100)), back), 200), (200,))

    def test_drawn(self):
        for shot in shots(random.Random(23), 250):
            for number, _, _, _ in shot[1]:
                self.assertEqual(keepers(shot, number), plain.keepers(shot, number), shot)


class TestGrowth(unittest.TestCase):
    FIRST = ((("k", 1), ("m", 0)), ((0, "traced", "map", ()), (1, "counted", "record", ())))

    def test_pairs(self):
        self.assertEqual(growth(self.FIRST, SHOT), ((2, 0), (2, 1)))
        self.assertEqual(growth(first=self.FIRST, second=SHOT), ((2, 0), (2, 1)))
        self.assertEqual(growth(SHOT, SHOT), ())
        self.assertEqual([growth(EMPTY, SHOT), growth(SHOT, EMPTY), growth(EMPTY, EMPTY)],
                         [(), (), ()])

    def test_order(self):
        first = ((("a", 0), ("b", 1), ("c", 2)), tuple((n, "counted", "record", ())
                                                       for n in range(3)))
        second = (first[0], ((0, "counted", "record", ((0, 3),)),
                             (1, "counted", "record", ((0, 4), (1, 5))),
                             (2, "counted", "record", ((0, 6),)), (3, "counted", "record", ()),
                             (4, "counted", "record", ()), (5, "counted", "record", ()),
                             (6, "counted", "record", ())))
        self.assertEqual(growth(first, second), ((2, 1), (1, 0), (1, 2)))

    def test_dead_objects_of_the_first_count_for_the_numbers(self):
        first = (self.FIRST[0], self.FIRST[1] + ((2, "traced", "record", ()),))
        self.assertEqual(growth(first, SHOT), ((1, 0), (1, 1)))
        first = (self.FIRST[0], self.FIRST[1] + ((30, "traced", "record", ()),))
        self.assertEqual(growth(first, SHOT), ())

    def test_alive_in_both_alone(self):
        first = ((("m", 0),), self.FIRST[1])
        self.assertEqual(growth(first, SHOT), ((2, 0),))
        self.assertEqual(growth(self.FIRST, (SHOT[0][:1], SHOT[1])), ())

    def test_drawn(self):
        source = random.Random(24)
        many = 0
        for _ in range(250):
            first = drawn(source, source.randint(0, 12), source.choice([0, 0.4, 0.8]))
            second = grown(source, first)
            self.assertTrue(is_snapshot(second))
            self.assertEqual(growth(first, second), plain.growth(first, second), (first, second))
            other = drawn(source, source.randint(0, 12))
            self.assertEqual(growth(first, other), plain.growth(first, other), (first, other))
            many += len(growth(first, second))
        self.assertGreater(many, 100)

    def test_machines(self):
        many = 0
        for seed in range(40):
            source = random.Random(seed)
            machine = lived(source, 40)
            first = snapshot(machine)
            for name, value in machine.variables:
                for row in ("let z = record counted 2", f"{name}.0 = z", "drop z"):
                    if isinstance(value, tuple):
                        ended(machine, row)
            second = snapshot(machine)
            self.assertEqual(growth(first, second), plain.growth(first, second))
            many += len(growth(first, second))
        self.assertGreater(many, 40)


class TestLarge(unittest.TestCase):
    def test_four_hundred(self):
        source = random.Random(25)
        shot = wide(source, 400)
        self.assertTrue(is_snapshot(shot))
        self.assertGreater(len(alive(shot)), 250)
        for number in source.sample(alive(shot), 12):
            self.assertEqual(dies_with(shot, number), plain.dies_with(shot, number))
        many = 0
        for number in alive(shot):
            for other in source.sample(dies_with(shot, number), 1):
                self.assertIn(number, keepers(shot, other))
                many += number != other
        self.assertGreater(many, 20)
        second = (shot[0], shot[1][:200])
        first = tuple((number, home, sort, tuple(part for part in parts if max(part) < 200))
                      for number, home, sort, parts in second[1])
        first = (tuple(root for root in shot[0] if root[1] < 200), first)
        self.assertTrue(is_snapshot(first))
        self.assertEqual(growth(first, shot), plain.growth(first, shot))


if __name__ == "__main__":
    unittest.main()
