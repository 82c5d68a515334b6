"""Section 12: pages, moves, compact and emptied."""
import itertools
import random
import unittest

from crossheaps.machine import Machine
from crossheaps.pages import emptied
from tests import model
from tests.helpers import lines, told

NAMES = "abcdefghijklmnopqrstuvwxyz"


def begun(*rows, **policy):
    machine = Machine(**policy)
    machine.told(lines(*rows))
    return machine


def traced(many, first=0):
    return [f"let {name}{name} = record traced 0" for name in NAMES[first:first + many]]


def drops(*names):
    return [f"drop {name}{name}" for name in names]


class TestPlaces(unittest.TestCase):
    def test_eight_cells(self):
        machine = Machine()
        events = machine.told(lines(*traced(17)))
        self.assertEqual(events, (("page", 0, "young"), ("page", 1, "young"), ("page", 2, "young")))
        self.assertEqual([machine.place_of(n) for n in (0, 7, 8, 15, 16)],
                         [(0, 0), (0, 7), (1, 0), (1, 7), (2, 0)])
        self.assertEqual(machine.pages, (
            (0, "young", tuple(range(8))), (1, "young", tuple(range(8, 16))),
            (2, "young", (16,) + (None,) * 7)))

    def test_counted_objects_have_none(self):
        machine = begun("let a = record counted 0", "let t = map traced", "let b = map counted",
                        "let w = weak traced a")
        self.assertEqual(machine.pages, ((0, "young", (1, 3) + (None,) * 6),))

    def test_least_free_place(self):
        machine = begun(*traced(10), *drops("c", "f", "i"), "minor")
        self.assertEqual(machine.pages, (
            (0, "young", (0, 1, None, 3, 4, None, 6, 7)), (1, "young", (None, 9) + (None,) * 6)))
        machine.told(lines(*[f"let {name} = map traced" for name in "xyzw"]))
        self.assertEqual(machine.pages, (
            (0, "young", (0, 1, 10, 3, 4, 11, 6, 7)), (1, "young", (12, 9, 13) + (None,) * 5)))

    def test_page_numbers_are_not_used_again(self):
        machine = begun("let a = map traced", "drop a", "minor", "let a = map traced")
        self.assertEqual(machine.pages, ((1, "young", (1,) + (None,) * 7),))

    def test_empty_cells_stay_until_a_collection(self):
        machine = begun("let a = map traced", "drop a")
        self.assertEqual(machine.pages, ((0, "young", (0,) + (None,) * 7),))
        self.assertEqual(machine.told("minor"), (("minor",), ("free", 0), ("back", 0)))


class TestMoves(unittest.TestCase):
    def test_ascending_to_the_least_free_place(self):
        machine = begun(*traced(9), *drops("b"), "minor")
        self.assertEqual(machine.told("minor"), tuple(
            [("minor",)] + [("old", n) for n in (0, 2, 3, 4, 5, 6, 7, 8)] + [("page", 2, "old")]
            + [("move", n, 2, at) for at, n in enumerate((0, 2, 3, 4, 5, 6, 7, 8))]
            + [("back", 0), ("back", 1)]))

    def test_a_second_old_page(self):
        machine = begun(*traced(9), "minor")
        events = machine.told("minor")
        self.assertEqual(events[10:], tuple(
            [("page", 2, "old")] + [("move", n, 2, n) for n in range(8)]
            + [("page", 3, "old"), ("move", 8, 3, 0), ("back", 0), ("back", 1)]))

    def test_free_cells_of_old_pages_first(self):
        machine = begun(*traced(9), "minor", "minor", *drops("c", "e"), "begin", "slice 9", "minor",
                        "minor", *traced(3, 10), "minor")
        events = machine.told("minor")
        self.assertEqual(events[4:], (("move", 9, 2, 2), ("move", 10, 2, 4), ("move", 11, 3, 1),
                                      ("back", 4)))

    def test_pinned_ones_stay_in_their_page(self):
        machine = begun("let a = map traced", "let b = map traced", "pin a", "minor")
        self.assertEqual(machine.told("minor"), (
            ("minor",), ("old", 0), ("old", 1), ("page", 1, "old"), ("move", 1, 1, 0)))
        self.assertEqual(machine.place_of(0), (0, 0))
        self.assertEqual(machine.told("minor"), (("minor",),))
        self.assertEqual(machine.told("unpin a\nminor"), (
            ("minor",), ("move", 0, 1, 1), ("back", 0)))

    def test_pinned_twice(self):
        machine = begun("let a = map traced", "pin a", "pin a", "minor", "minor", "unpin a")
        self.assertEqual(machine.told("minor"), (("minor",),))
        self.assertEqual(machine.told("unpin a\nminor")[1:3],
                         (("page", 1, "old"), ("move", 0, 1, 0)))

    def test_held_ones_move(self):
        machine = begun("let a = map traced", "hold a", "minor")
        self.assertEqual(machine.told("minor")[3], ("move", 0, 1, 0))

    def test_new_objects_beside_old_pinned_ones(self):
        machine = begun("let a = map traced", "pin a", "minor", "minor", "let b = map traced")
        self.assertEqual(machine.pages, ((0, "young", (0, 1) + (None,) * 6),))

    def test_given_back_behind_a_finish(self):
        machine = begun(*traced(9), "minor", "minor", *drops(*NAMES[:8]), "begin")
        self.assertEqual(machine.told("slice 1")[-2:], (("free", 7), ("back", 2)))
        self.assertEqual(machine.pages, ((3, "old", (8,) + (None,) * 7),))


def old_pages(loads, pins=()):
    """A machine whose only pages are old ones with so many objects each."""
    machine = Machine()
    names = [one + two for one in NAMES for two in NAMES if one + two not in model.TAKEN]
    machine.told(lines(*[f"let {name} = record traced 0" for name in names[:8 * len(loads)]]))
    machine.told("minor\nminor")
    for page, load in enumerate(loads):
        for cell in range(load, 8):
            machine.told(f"drop {names[8 * page + cell]}")
        if page in pins:
            machine.told(f"pin {names[8 * page]}")
    machine.told("begin\nslice 10000")
    return machine


class TestCompact(unittest.TestCase):
    def test_nothing(self):
        self.assertEqual(told("compact 0\ncompact 10000"), ())
        self.assertEqual(old_pages([3]).told("compact 10"), ())
        self.assertEqual(old_pages([3, 4]).told("compact 2"), ())
        self.assertEqual(old_pages([8, 8]).told("compact 100"), ())

    def test_moves(self):
        machine = old_pages([6, 2, 5])
        self.assertEqual([page for page, _, _ in machine.pages], [3, 4, 5])
        self.assertEqual(machine.told("compact 2"), (
            ("move", 8, 3, 6), ("move", 9, 3, 7), ("back", 4)))
        self.assertEqual(machine.told("compact 10000"), ())

    def test_several_pages(self):
        machine = old_pages([2, 3, 1, 7])
        self.assertEqual(machine.told("compact 100"), (
            ("move", 0, 5, 3), ("move", 1, 5, 4), ("move", 16, 5, 5), ("back", 4), ("back", 6)))

    def test_young_pages_are_left(self):
        machine = old_pages([2, 3])
        machine.told("let x = map traced")
        self.assertEqual(machine.told("compact 9"), (
            ("move", 0, 3, 3), ("move", 1, 3, 4), ("back", 2)))

    def test_pinned_pages_are_left(self):
        machine = old_pages([1, 2, 3], pins=(0,))
        self.assertEqual(machine.told("compact 2"), (
            ("move", 8, 3, 1), ("move", 9, 3, 2), ("back", 4)))

    def test_places_are_free_again(self):
        machine = old_pages([8, 1])
        self.assertEqual(machine.told("compact 1"), ())
        machine.told("drop aa\nbegin\nslice 100")
        self.assertEqual(machine.told("compact 1"), (("move", 8, 2, 0), ("back", 3)))


class TestEmptied(unittest.TestCase):
    def test_edges(self):
        self.assertEqual(emptied((), 0), ())
        self.assertEqual(emptied((), 10 ** 39), ())
        self.assertEqual(emptied(((0, 1, False),), 5), ())
        self.assertEqual(emptied(((0, 8, False), (1, 8, False)), 99), ())
        self.assertEqual(emptied(((0, 8, False), (1, 1, False)), 99), ())
        self.assertEqual(emptied(((0, 4, False), (1, 4, False)), 4), (0,))
        self.assertEqual(emptied(((0, 4, False), (1, 4, False)), 3), ())
        self.assertEqual(emptied(((0, 4, True), (1, 4, False)), 4), (1,))
        self.assertEqual(emptied(((0, 4, True), (1, 4, True)), 10 ** 39), ())
        self.assertEqual(emptied(((5, 1, False), (9, 1, False)), 1), (5,))
        self.assertEqual(emptied(((5, 1, False), (9, 1, False)), 0), ())

    def test_room_of_the_others(self):
        self.assertEqual(emptied(((0, 7, False), (1, 1, False), (2, 1, False)), 9), (1,))
        self.assertEqual(emptied(((0, 7, True), (1, 1, False), (2, 1, False)), 9), (1,))
        self.assertEqual(emptied(((0, 6, False), (1, 1, False), (2, 1, False)), 9), (1, 2))
        self.assertEqual(emptied(((0, 1, False), (1, 1, False), (2, 6, False)), 9), (0, 1))

    def test_fewest_moves_then_least(self):
        self.assertEqual(emptied(((0, 3, False), (1, 2, False), (2, 2, False)), 4), (1, 2))
        self.assertEqual(emptied(((0, 2, False), (1, 2, False), (2, 2, False)), 5), (0, 1))
        self.assertEqual(emptied(((0, 2, False), (1, 1, False), (2, 2, False), (3, 8, False)), 3),
                         (0, 1))

    def test_all_small_ones(self):
        for many in (1, 2, 3):
            for loads in itertools.product((1, 2, 4, 7, 8), repeat=many):
                for pins in itertools.product((False, True), repeat=many):
                    pages = tuple(zip((2, 3, 7), loads, pins))
                    for moves in (0, 1, 2, 3, 5, 8, 9):
                        self.assertEqual(emptied(pages, moves), model.emptied(pages, moves))

    def test_random_ones(self):
        source = random.Random(12)
        for _ in range(600):
            pages = tuple((page, source.randint(1, source.choice([2, 4, 8])),
                           source.random() < 0.2)
                          for page in sorted(source.sample(range(40), source.randint(0, 8))))
            moves = source.randint(0, 30)
            self.assertEqual(emptied(pages, moves), model.emptied(pages, moves), (pages, moves))


if __name__ == "__main__":
    unittest.main()
