"""Section 15: costs and reasons."""
import random
import unittest

from crossheaps.reasons import cost, reason, shows_reason
from tests import plain
from tests.helpers import ANY, raised
from tests.shots import EMPTY, KEYED, SELF, chain, drawn, shots

SNAP = ((("x", 0), ("y", 1)), ((0, "traced", "map", ((1, 2),)), (1, "counted", "record", ()),
                               (2, "counted", "record", ())))
# Object 3 costs 3 by slot 0 of 1 and of 2, and 4 by slot 1 of 4.
EQUAL = ((("a", 0), ("b", 5)), (
    (0, "counted", "record", ((0, 1), (1, 2))), (1, "counted", "record", ((0, 3),)),
    (2, "counted", "record", ((0, 3),)), (3, "counted", "record", ()),
    (4, "counted", "record", ((1, 3),)), (5, "counted", "record", ((0, 6),)),
    (6, "counted", "record", ((0, 4),))))


def doubling(many):
    """Maps of which each one is its own key, for the next one."""
    objects = [(n, "counted", "map", ((n, n + 1),) if n + 1 < many else ()) for n in range(many)]
    return ((("m", 0),), tuple(objects))


def others():
    """Values that look like the objects 0 and 1, and numbers that no object has."""
    return [False, True, 3, -1, 10 ** 39, "0", (0,), [0], None, {}]


class TestNoObject(unittest.TestCase):
    def test_any_value(self):
        for value in ANY + others():
            wanted = ("NoObject", {"value": value})
            for call in (cost, reason):
                self.assertEqual(raised(call, SNAP, value), wanted)
                self.assertEqual(raised(call, EMPTY, value), wanted)
            self.assertEqual(raised(shows_reason, SNAP, value, ()), wanted)
            self.assertEqual(raised(shows_reason, SNAP, value, value), wanted)
            for call in (cost, reason):
                with self.assertRaises(ValueError) as caught:
                    call(snapshot=SNAP, number=value)
                self.assertIs(caught.exception.value, value)

    def test_objects_that_are_not_alive_are_there(self):
        shot = ((), ((4, "counted", "record", ()),))
        self.assertIsNone(cost(shot, 4))
        self.assertIsNone(reason(shot, 4))
        for value in ANY + [((4, ("root", "x")),), ((4, ("slot", 4, 0)),)]:
            self.assertIs(shows_reason(shot, 4, value), False)


class TestCost(unittest.TestCase):
    def test_links(self):
        self.assertEqual([cost(SNAP, number) for number in (0, 1, 2)], [1, 1, 3])
        self.assertEqual([cost(EQUAL, number) for number in range(7)], [1, 2, 2, 3, 3, 1, 2])

    def test_entries_count_map_and_key(self):
        shot = ((("a", 0),), ((0, "counted", "record", ((0, 1), (1, 2))),
                              (1, "traced", "map", ((2, 3), (3, 1))),
                              (2, "counted", "record", ()), (3, "counted", "record", ())))
        self.assertEqual([cost(shot, number) for number in range(4)], [1, 2, 2, 5])

    def test_a_map_that_is_its_own_key(self):
        self.assertEqual([cost(SELF, number) for number in (7, 9, 12, 30)], [1, 3, 4, None])
        self.assertEqual(cost(doubling(5), 4), 31)

    def test_a_key_that_lives_by_its_value(self):
        self.assertEqual([cost(KEYED, number) for number in (0, 1, 2, 4)], [1, None, None, None])

    def test_shared_objects_cost_again(self):
        # By the entry there are fewer pairs to object 5, but 0 and 1 are counted twice.
        chain_of = tuple((n, "counted", "record", ((0, n + 1),)) for n in range(10, 13))
        shot = ((("a", 0),), (
            (0, "counted", "record", ((0, 1), (1, 10))),
            (1, "counted", "record", ((0, 2), (1, 3))), (2, "counted", "map", ((3, 5),)),
            (3, "counted", "record", ()), (5, "counted", "record", ())) + chain_of
            + ((13, "counted", "record", ((0, 5),)),))
        self.assertEqual(cost(shot, 5), 6)
        long = ((0, ("root", "a")), (10, ("slot", 0, 1)), (11, ("slot", 10, 0)),
                (12, ("slot", 11, 0)), (13, ("slot", 12, 0)), (5, ("slot", 13, 0)))
        short = ((0, ("root", "a")), (1, ("slot", 0, 0)), (2, ("slot", 1, 0)),
                 (3, ("slot", 1, 1)), (5, ("entry", 2, 3)))
        self.assertTrue(plain.is_reason(shot, 5, short))
        self.assertEqual(plain.cost_of(short), 7)
        self.assertEqual(reason(shot, 5), long)
        self.assertIs(shows_reason(shot, 5, long), True)
        self.assertIs(shows_reason(shot, 5, short), False)

    def test_large(self):
        self.assertEqual(cost(chain(400), 399), 400)
        self.assertEqual(cost(doubling(400), 399), 2 ** 400 - 1)
        pairs = reason(doubling(400), 399)
        self.assertEqual(len(pairs), 400)
        self.assertTrue(shows_reason(doubling(400), 399, pairs))

    def test_drawn(self):
        for shot in shots(random.Random(15), 400):
            costs = plain.costs(shot)
            for number, _, _, _ in shot[1]:
                self.assertEqual(cost(shot, number), costs.get(number), (shot, number))


class TestReason(unittest.TestCase):
    def test_roots(self):
        self.assertEqual(reason(SNAP, 1), ((1, ("root", "y")),))
        shot = ((("pin 3", 3),), ((3, "counted", "record", ((0, 3),)),))
        self.assertEqual(reason(shot, 3), ((3, ("root", "pin 3")),))

    def test_drawn(self):
        for shot in shots(random.Random(16), 300):
            costs = plain.costs(shot)
            for number, _, _, _ in shot[1]:
                pairs = reason(shot, number)
                if number not in costs:
                    self.assertIsNone(pairs)
                    continue
                self.assertIsInstance(pairs, tuple)
                self.assertTrue(all(type(pair) is type(pair[1]) is tuple for pair in pairs))
                self.assertTrue(plain.is_reason(shot, number, pairs), (shot, number))
                self.assertEqual(plain.cost_of(pairs), costs[number], (shot, number))
                self.assertIs(shows_reason(shot, number, pairs), True)


class TestShowsReason(unittest.TestCase):
    PAIRS = ((1, ("root", "y")), (0, ("root", "x")), (2, ("entry", 0, 1)))

    def test_good_ones(self):
        self.assertIs(shows_reason(SNAP, 2, self.PAIRS), True)
        self.assertIs(shows_reason(SNAP, 2, (self.PAIRS[1], self.PAIRS[0], self.PAIRS[2])), True)
        self.assertIs(shows_reason(snapshot=SNAP, number=1, value=((1, ("root", "y")),)), True)

    def test_any_value(self):
        root = ("root", "y")
        for value in ANY:
            for pairs in (value, (value,), ((1, value),), ((value, root),), ((1, root), value),
                          (value, (1, root)), ((1, ("root", value)),), ((1, (value, "y")),),
                          ((1, ("slot", value, 0)),), ((1, ("slot", 0, value)),),
                          ((1, ("entry", value, value)),), ((1, (value,)),), ((1, root, value),)):
                self.assertIs(shows_reason(SNAP, 1, pairs), False, pairs)

    def test_kinds_of_values(self):
        key, owner, last = self.PAIRS
        for pairs in (list(self.PAIRS), ([*key], owner, last), (key, owner, (2, [*last[1]])),
                      ((True, key[1]), owner, last), (key, (False, owner[1]), last),
                      (key, owner, (2, ("entry", False, 1))), (key, owner, (2, ("entry", 0, True))),
                      (key, owner, (2, ("entry", 0, 1, 2))), (key, owner, last, ())):
            self.assertIs(shows_reason(SNAP, 2, pairs), False, pairs)

    def test_what_is_wanted_of_a_reason(self):
        key, owner, last = self.PAIRS
        for pairs in ((), (key, owner), (key, last), (owner, last), (last,), (last, key, owner),
                      (key, last, owner), (key, key, owner, last), (key, owner, last, last),
                      ((1, ("root", "x")), owner, last), (key, owner, (2, ("entry", 1, 0))),
                      (key, owner, (2, ("slot", 0, 1))), (key, owner, (1, ("entry", 0, 1)))):
            self.assertIs(shows_reason(SNAP, 2, pairs), False, pairs)
        self.assertIs(shows_reason(SNAP, 1, (owner, key)), False)
        # Links that lead to another object than that of their pair.
        for pairs in (((2, ("root", "y")),), (owner, (2, ("root", "y"))),
                      (key, owner, (2, ("root", "x"))), ((0, ("root", "y")), (2, ("entry", 0, 0)))):
            self.assertIs(shows_reason(SNAP, 2, pairs), False, pairs)
        shot = ((("a", 0), ("b", 1)), ((0, "counted", "record", ((0, 2),)),
                                       (1, "counted", "record", ((0, 2),)),
                                       (2, "counted", "record", ())))
        self.assertIs(shows_reason(shot, 2, ((1, ("root", "a")), (2, ("slot", 1, 0)))), False)
        self.assertIs(shows_reason(shot, 2, ((1, ("root", "b")), (2, ("slot", 1, 0)))), True)
        self.assertIs(shows_reason(SNAP, 0, self.PAIRS), False)

    def test_each_pair_is_used(self):
        shot = ((("a", 0), ("b", 1)), ((0, "counted", "record", ((0, 2),)),
                                       (1, "counted", "record", ()), (2, "counted", "record", ())))
        good = ((0, ("root", "a")), (2, ("slot", 0, 0)))
        self.assertTrue(shows_reason(shot, 2, good))
        self.assertFalse(shows_reason(shot, 2, ((1, ("root", "b")),) + good))
        self.assertFalse(shows_reason(shot, 2, good[:1] + ((1, ("root", "b")),) + good[1:]))

    def test_equal_costs_and_greater_ones(self):
        first = (0, ("root", "a"))
        for number, link in ((1, ("slot", 0, 0)), (2, ("slot", 0, 1))):
            pairs = (first, (number, link), (3, ("slot", number, 0)))
            self.assertTrue(shows_reason(EQUAL, 3, pairs))
        dear = ((5, ("root", "b")), (6, ("slot", 5, 0)), (4, ("slot", 6, 0)), (3, ("slot", 4, 1)))
        self.assertTrue(plain.is_reason(EQUAL, 3, dear))
        self.assertFalse(shows_reason(EQUAL, 3, dear))

    def test_entries_without_objects_lead_nowhere(self):
        shot = ((("m", 0),), ((0, "counted", "map", ((0, None),)),))
        self.assertFalse(shows_reason(shot, 0, ((0, ("entry", 0, 0)),)))

    def test_all_reasons_of_small_snapshots(self):
        source = random.Random(17)
        dear = 0
        many = 0
        for _ in range(250):
            shot = drawn(source, source.randint(1, 4), source.choice([0, 0.5, 0.9]))
            if len(plain.links(shot)) > 7:
                continue
            costs = plain.costs(shot)
            for number, _, _, _ in shot[1]:
                found = plain.all_reasons(shot, number)
                if number in costs:
                    self.assertIn(reason(shot, number), found)
                for pairs in found:
                    good = plain.cost_of(pairs) == costs[number]
                    self.assertIs(shows_reason(shot, number, pairs), good, (shot, pairs))
                    dear += not good
                    many += good
        self.assertGreater(many, 300)
        self.assertGreater(dear, 50)

    def test_changed_reasons(self):
        source = random.Random(18)
        for shot in shots(source, 200):
            for number, _, _, _ in shot[1]:
                pairs = reason(shot, number)
                if pairs is None or len(pairs) < 2:
                    continue
                other = list(pairs)
                at = source.randrange(len(pairs))
                change = source.randrange(3)
                if change == 0:
                    del other[at]
                elif change == 1:
                    other.append(other[at])
                else:
                    other = other[at:] + other[:at]
                good = plain.is_reason(shot, number, other)
                self.assertIs(shows_reason(shot, number, tuple(other)), good)


if __name__ == "__main__":
    unittest.main()
