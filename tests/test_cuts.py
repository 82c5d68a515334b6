"""Section 17: cuts and evidence."""
import random
import unittest
from itertools import combinations, permutations

from crossheaps.cuts import evidence, fewest_cuts, shows_cut, shows_evidence
from crossheaps.deaths import dies_without
from crossheaps.snapshots import alive, links, snapshot
from tests import plain, plain_cuts
from tests.helpers import ANY, raised
from tests.shots import EMPTY, KEYED, SELF, chain, drawn, lived, wide

SNAP = ((("x", 0), ("y", 1)), ((0, "traced", "map", ((1, 2),)), (1, "counted", "record", ()),
                               (2, "counted", "record", ())))
ENTRY, ROOTX, ROOTY = ("entry", 0, 1), ("root", "x"), ("root", "y")
# Objects 1 and 2 both lead to 3; the map 4 with the key 3 leads to 5. Object 6 is not alive.
WAYS = ((("a", 0), ("b", 4)), (
    (0, "counted", "record", ((0, 1), (1, 2))), (1, "counted", "record", ((0, 3),)),
    (2, "counted", "record", ((0, 3),)), (3, "counted", "record", ()),
    (4, "traced", "map", ((3, 5),)), (5, "counted", "record", ()),
    (6, "counted", "record", ((0, 6),))))


def keyed(many):
    """A map with so many entries that matter, each with a key that a root of its own holds."""
    objects = [(0, "traced", "map", tuple((n, 100) for n in range(1, many + 1)))]
    objects += [(n, "counted", "record", ()) for n in range(1, many + 1)]
    objects += [(100, "counted", "record", ())]
    roots = [("m", 0)] + [("k" + "abcdefg"[n - 1], n) for n in range(1, many + 1)]
    return (tuple(sorted(roots)), tuple(objects))


def fanned(many):
    """A snapshot with so many links: a chain, of which six slots each hold the next record."""
    objects = []
    left = many - 1
    while left > 0:
        number = len(objects)
        objects.append((number, "counted", "record",
                        tuple((slot, number + 1) for slot in range(min(6, left)))))
        left -= min(6, left)
    objects.append((len(objects), "counted", "record", ()))
    return ((("a", 0),), tuple(objects))


def layered(random):
    """Four layers of records, numbered anew; the last one, below 5, are the victims."""
    sizes = [random.randint(2, 5) for _ in range(4)]
    numbers = [random.sample(range(10 * layer, 10 * layer + 10), size)
               for layer, size in zip((3, 1, 2), sizes)] + [list(range(sizes[3]))]
    objects = []
    for layer, later in zip(numbers, numbers[1:] + [[]]):
        for number in layer:
            slots = random.sample(range(6), random.choice([1, 2, 2, 3])) if later else []
            parts = tuple((slot, random.choice(later)) for slot in sorted(slots))
            objects.append((number, "counted", "record", parts))
    roots = tuple(("r" + "abcdefgh"[at], number) for at, number in enumerate(numbers[0] * 2)
                  if at < 8)
    return (tuple(sorted(roots)), tuple(sorted(objects)))


def asked(random, shot):
    """Victims and fixed links of a snapshot."""
    numbers = [row[0] for row in shot[1]]
    there = links(shot)
    victims = tuple(random.choices(numbers, k=random.choice([1, 1, 1, 2, 3]))) if numbers else ()
    part = random.choice([0, 0, 0.2, 0.5])
    return victims, tuple(link for link in there if random.random() < part)


def small(random, many, most=10):
    """So many (snapshot, victims, fixed) of few links, of which at most four entries matter."""
    found = []
    while len(found) < many:
        shot = drawn(random, random.randint(1, 7), random.choice([0, 0.3, 0.6, 0.9]))
        victims, fixed = asked(random, shot)
        if 2 <= len(links(shot)) <= most and len(plain_cuts.mattering(shot, victims)) <= 4:
            found.append((shot, victims, fixed))
    return found


class TestErrors(unittest.TestCase):
    def every(self, shot, victims, fixed):
        """What each of the four functions raises."""
        found = [raised(fewest_cuts, shot, victims, fixed), raised(evidence, shot, victims, fixed)]
        for value in ANY:
            found.append(raised(shows_cut, shot, victims, fixed, value))
            found.append(raised(shows_evidence, shot, victims, fixed, 0, value))
            found.append(raised(shows_evidence, shot, victims, fixed, None, value))
        return found

    def check(self, shot, victims, fixed, name, told):
        for error in self.every(shot, victims, fixed):
            self.assertEqual(error, (name, told))

    def test_no_object(self):
        for value in ANY + [True, False, 7, -1, 10 ** 39, "0", (0,)]:
            for victims in ((value,), (2, value, 1), (value, 99)):
                self.check(SNAP, victims, (), "NoObject", {"value": value})
            self.check(EMPTY, (value,), (), "NoObject", {"value": value})
        with self.assertRaises(ValueError) as caught:
            fewest_cuts(SNAP, (0, True))
        self.assertIs(caught.exception.value, True)

    def test_no_link(self):
        wrong = [("root", "z"), ("slot", 0, 1), ("entry", 1, 0), ("entry", False, 1),
                 ("entry", 0, True), ["entry", 0, 1], ("root",), ("root", "x", "x"), "x",
                 ("entry", 0), ("entry", 0, 1, 2), ("root", ["x"]), (("root", "x"),)]
        for value in ANY + wrong:
            for fixed in ((value,), (ROOTX, value, ENTRY), (value, ("root", "q"))):
                self.check(SNAP, (2,), fixed, "NoLink", {"value": value})
                self.check(SNAP, (), fixed, "NoLink", {"value": value})
        # Links of what is not alive are no links.
        self.check(WAYS, (3,), (("slot", 6, 0),), "NoLink", {"value": ("slot", 6, 0)})

    def test_entries_that_matter(self):
        for many in (5, 6, 7):
            self.check(keyed(many), (100,), (), "TooMany", {"count": many})
            self.check(keyed(many), (100,), (("root", "m"),), "TooMany", {"count": many})
            self.assertEqual(fewest_cuts(keyed(many), (0,)), (("root", "m"),))
            self.assertEqual(fewest_cuts(keyed(many), ()), ())
        self.assertEqual(len(evidence(keyed(4), (100,))), 16)

    def test_links(self):
        for many in (119, 120):
            shot = fanned(many)
            last = shot[1][-1][0]
            self.assertEqual(len(links(shot)), many)
            self.assertEqual(fewest_cuts(shot, (last,)), (("root", "a"),))
            self.assertEqual(fewest_cuts(shot, ()), ())
        for many in (121, 122, 300):
            shot = fanned(many)
            for victims in ((), (0,), (1, 0)):
                self.check(shot, victims, (("root", "a"),), "TooMany", {"count": many})

    def test_order(self):
        many = fanned(121)
        self.check(many, (99,), (("root", "b"),), "NoObject", {"value": 99})
        self.check(many, (0,), (("root", "b"),), "NoLink", {"value": ("root", "b")})
        five = keyed(5)
        self.check(five, (100, "100"), (5,), "NoObject", {"value": "100"})
        self.check(five, (100,), (("root", "m"), 5), "NoLink", {"value": 5})
        # Five entries that matter, and more than 120 links.
        objects = list(five[1]) + [(200 + n, home, sort, tuple((s, 200 + o) for s, o in parts))
                                   for n, home, sort, parts in many[1]]
        both = (tuple(sorted(five[0] + (("z", 200),))), tuple(objects))
        self.check(both, (100,), (), "TooMany", {"count": 5})
        self.check(both, (200,), (), "TooMany", {"count": len(links(both))})
        self.assertGreater(len(links(both)), 120)


class TestFewestCuts(unittest.TestCase):
    def test_links(self):
        self.assertEqual(fewest_cuts(WAYS, (3,)), (("root", "a"),))
        self.assertEqual(fewest_cuts(WAYS, (5,)), (("entry", 4, 3),))
        self.assertEqual(fewest_cuts(WAYS, (3, 5)), (("root", "a"),))
        self.assertEqual(fewest_cuts(WAYS, (4, 3)), (("root", "a"), ("root", "b")))
        self.assertEqual(fewest_cuts(WAYS, (3,), (("root", "a"),)),
                         (("slot", 0, 0), ("slot", 0, 1)))
        self.assertEqual(fewest_cuts(WAYS, (3,), (("root", "a"), ("slot", 0, 0))),
                         (("slot", 0, 1), ("slot", 1, 0)))
        self.assertEqual(fewest_cuts(WAYS, (5,), (("entry", 4, 3), ("root", "b"))),
                         (("root", "a"),))

    def test_by_name(self):
        self.assertEqual(fewest_cuts(fixed=(), victims=(2,), snapshot=SNAP), (ENTRY,))
        parts = evidence(fixed=(ENTRY,), victims=(2,), snapshot=SNAP)
        self.assertEqual(parts, (((ROOTY, ENTRY),), ((ROOTX, ENTRY),)))
        self.assertIs(shows_cut(value=(ENTRY,), fixed=(), victims=(2,), snapshot=SNAP), True)
        self.assertIs(shows_evidence(value=parts, count=1, fixed=(), victims=(2,), snapshot=SNAP),
                      True)

    def test_no_victims(self):
        for shot in (EMPTY, SNAP, KEYED, SELF, WAYS):
            for fixed in ((), links(shot)):
                self.assertEqual(fewest_cuts(shot, (), fixed), ())
                self.assertEqual(evidence(shot, (), fixed), ((),))
                self.assertIs(shows_cut(shot, (), fixed, ()), True)
                self.assertIs(shows_evidence(shot, (), fixed, 0, ((),)), True)

    def test_victims_that_are_not_alive(self):
        for shot, victims in ((WAYS, (6,)), (WAYS, (6, 6)), (KEYED, (1, 2, 4)), (SELF, (30,))):
            self.assertEqual(fewest_cuts(shot, victims), ())
            self.assertEqual(fewest_cuts(shot, victims, links(shot)), ())
            self.assertEqual(evidence(shot, victims, links(shot)), ((),))
        # They change nothing beside others.
        self.assertEqual(fewest_cuts(WAYS, (6, 3, 3)), (("root", "a"),))

    def test_victims_that_roots_hold(self):
        shot = ((("a", 0), ("hold 0", 0), ("pin 0", 0), ("queue 1", 1)),
                ((0, "counted", "record", ()), (1, "counted", "record", ((0, 0),))))
        roots = tuple(("root", root) for root, _ in shot[0])
        self.assertEqual(fewest_cuts(shot, (0,)), roots)
        self.assertEqual(fewest_cuts(shot, (0, 1)), roots)
        self.assertEqual(fewest_cuts(shot, (1,)), roots[3:])
        self.assertEqual(fewest_cuts(shot, (0,), roots[3:]), roots[:3] + (("slot", 1, 0),))
        self.assertIsNone(fewest_cuts(shot, (0,), roots[1:2]))
        self.assertEqual(evidence(shot, (0,), roots[1:2]), (((roots[1],),),))

    def test_all_links_fixed(self):
        for shot, victims in ((SNAP, (2,)), (WAYS, (5,)), (SELF, (12,)), (keyed(4), (100,))):
            every = links(shot)
            self.assertIsNone(fewest_cuts(shot, victims, every))
            parts = evidence(shot, victims, every)
            self.assertTrue(all(len(part) == 1 for part in parts))
            self.assertTrue(plain_cuts.is_evidence(shot, victims, every, None, parts))
            self.assertIs(shows_evidence(shot, victims, every, None, parts), True)

    def test_an_entry_needs_map_and_key(self):
        # Each of the two alone can be cut off; if one is fixed, the other one is.
        shot = ((("m", 0), ("x", 1), ("y", 1)), SNAP[1])
        entry = (("entry", 0, 1),)
        self.assertEqual(fewest_cuts(shot, (2,), entry), (("root", "m"),))
        self.assertEqual(fewest_cuts(shot, (2,), entry + (("root", "m"),)),
                         (("root", "x"), ("root", "y")))
        self.assertIsNone(fewest_cuts(shot, (2,), entry + (("root", "m"), ("root", "x"))))

    def test_a_map_that_is_its_own_key(self):
        self.assertEqual(fewest_cuts(SELF, (9,)), (("entry", 7, 7),))
        self.assertEqual(fewest_cuts(SELF, (12,)), (("entry", 7, 7),))
        self.assertEqual(fewest_cuts(SELF, (12,), (("entry", 7, 7), ("root", "m"))),
                         (("slot", 9, 5),))
        part = ((("root", "m"), ("entry", 7, 7)),)
        self.assertEqual(evidence(SELF, (9,)), (part, part))

    def test_both_sides_reached_by_one(self):
        # Both the map and the key hang on object 0; the value may go by the entry or by a slot.
        shot = ((("a", 0),), (
            (0, "counted", "record", ((0, 1), (1, 2), (2, 3))), (1, "traced", "map", ((2, 3),)),
            (2, "counted", "record", ()), (3, "counted", "record", ())))
        self.assertEqual(fewest_cuts(shot, (3,)), (("root", "a"),))
        fixed = (("root", "a"),)
        self.assertEqual(fewest_cuts(shot, (3,), fixed), (("entry", 1, 2), ("slot", 0, 2)))
        fixed = (("entry", 1, 2), ("root", "a"))
        self.assertEqual(fewest_cuts(shot, (3,), fixed), (("slot", 0, 0), ("slot", 0, 2)))
        fixed = (("entry", 1, 2), ("root", "a"), ("slot", 0, 0))
        self.assertEqual(fewest_cuts(shot, (3,), fixed), (("slot", 0, 1), ("slot", 0, 2)))

    def test_against_all_sets_of_links(self):
        found = {}
        for shot, victims, fixed in small(random.Random(171), 500):
            cut = fewest_cuts(shot, victims, fixed)
            self.assertEqual(cut, plain_cuts.fewest_cuts(shot, victims, fixed), (shot, victims, fixed))
            self.assertEqual(fewest_cuts(shot, victims), plain_cuts.fewest_cuts(shot, victims))
            size = None if cut is None else len(cut)
            found[size] = found.get(size, 0) + 1
        self.assertLessEqual({None, 0, 1, 2, 3}, set(found))

    def test_against_all_sets_with_entries(self):
        many = 0
        for shot, victims, fixed in small(random.Random(172), 900, 12):
            if len(plain_cuts.mattering(shot, victims)) >= 2:
                many += 1
                self.assertEqual(fewest_cuts(shot, victims, fixed),
                                 plain_cuts.fewest_cuts(shot, victims, fixed), (shot, victims, fixed))
        self.assertGreater(many, 80)

    def test_too_many_entries_of_drawn_snapshots(self):
        source = random.Random(173)
        many = 0
        for _ in range(300):
            shot = drawn(source, source.randint(3, 12), 0.8)
            victims, fixed = asked(source, shot)
            count = len(plain_cuts.mattering(shot, victims))
            wanted = ("TooMany", {"count": count}) if count > 4 else None
            self.assertEqual(raised(fewest_cuts, shot, victims, fixed), wanted)
            many += count > 4
        self.assertGreater(many, 30)


    def test_links_that_others_stand_beside(self):
        # Object 1 leads to 2 straight and by 3: neither slot is in a least cut of one link.
        shot = ((("a", 9),), (
            (1, "counted", "record", ((0, 2), (1, 3))), (2, "counted", "record", ((0, 4),)),
            (3, "counted", "record", ((0, 2),)), (4, "counted", "record", ()),
            (9, "counted", "record", ((0, 1),))))
        self.assertEqual(fewest_cuts(shot, (4,)), (("root", "a"),))
        fixed = (("root", "a"),)
        self.assertEqual(fewest_cuts(shot, (4,), fixed), (("slot", 2, 0),))
        fixed = (("root", "a"), ("slot", 2, 0))
        self.assertEqual(fewest_cuts(shot, (4,), fixed), (("slot", 9, 0),))
        fixed = (("root", "a"), ("slot", 2, 0), ("slot", 9, 0))
        self.assertEqual(fewest_cuts(shot, (4,), fixed), (("slot", 1, 0), ("slot", 1, 1)))


class TestEvidence(unittest.TestCase):
    def test_choices_in_their_order(self):
        # Two entries that matter: key key, key map, map key, map map.
        shot = ((("a", 1), ("b", 2), ("m", 0), ("n", 3)), (
            (0, "traced", "map", ((1, 4),)), (1, "counted", "record", ()),
            (2, "counted", "record", ()), (3, "traced", "map", ((2, 4),)),
            (4, "counted", "record", ())))
        first, second = ("entry", 0, 1), ("entry", 3, 2)
        self.assertEqual(fewest_cuts(shot, (4,)), (first, second))
        # The roots of the key and of the map: of the first entry a and m, of the second one b and n.
        wanted = [{(("root", one), first), (("root", two), second)}
                  for one in "am" for two in "bn"]
        self.assertEqual([set(part) for part in evidence(shot, (4,))], wanted)
        good = tuple(tuple(sorted(part)) for part in wanted)
        self.assertIs(shows_evidence(shot, (4,), (), 2, good), True)
        self.assertIs(shows_evidence(shot, (4,), (), 2, good[::-1]), False)
        self.assertIs(shows_evidence(shot, (4,), (), 2, (good[0], good[2], good[1], good[3])), False)

    def test_drawn(self):
        seen = {}
        for shot, victims, fixed in small(random.Random(174), 500, 14):
            cut = fewest_cuts(shot, victims, fixed)
            count = None if cut is None else len(cut)
            parts = evidence(shot, victims, fixed)
            self.assertTrue(plain_cuts.is_evidence(shot, victims, fixed, count, parts),
                            (shot, victims, fixed, parts))
            self.assertIs(shows_evidence(shot, victims, fixed, count, parts), True)
            self.assertIsInstance(parts, tuple)
            for part in parts:
                self.assertIsInstance(part, tuple)
                self.assertTrue(all(type(way) is tuple for way in part))
            seen[count] = seen.get(count, 0) + 1
        self.assertLessEqual({None, 0, 1, 2, 3}, set(seen))

    def test_fixed_links_are_shared(self):
        # Both ways go by the fixed root.
        fixed = (("root", "a"),)
        ways = ((("root", "a"), ("slot", 0, 0), ("slot", 1, 0)),
                (("root", "a"), ("slot", 0, 1), ("slot", 2, 0)))
        self.assertEqual(set(evidence(WAYS, (3,), fixed)[0]), set(ways))
        self.assertIs(shows_evidence(WAYS, (3,), fixed, 2, (ways,)), True)
        self.assertIs(shows_evidence(WAYS, (3,), (), 2, (ways,)), False)
        self.assertIs(shows_evidence(WAYS, (3,), (), 1, (ways[:1],)), True)


class TestShowsCut(unittest.TestCase):
    def test_more_links_than_needed(self):
        self.assertIs(shows_cut(WAYS, (3,), (), (("root", "a"),)), True)
        self.assertIs(shows_cut(WAYS, (3,), (), (("root", "a"), ("root", "b"))), True)
        self.assertIs(shows_cut(WAYS, (3,), (), links(WAYS)), True)
        self.assertIs(shows_cut(WAYS, (3,), (), (("slot", 1, 0), ("slot", 2, 0))), True)
        for value in ((), (("root", "b"),), (("slot", 1, 0),)):
            self.assertIs(shows_cut(WAYS, (3,), (), value), False)

    def test_form(self):
        good = (("slot", 0, 0), ("slot", 2, 0))
        self.assertIs(shows_cut(WAYS, (3,), (), good), True)
        for value in (good[::-1], good + good[1:], good[:1] + good, list(good), good[0],
                      (list(good[0]), good[1]), (("slot", False, 0), good[1]),
                      (("slot", 0, False), good[1]), good + (("slot", 6, 0),),
                      (("entry", 6, 0),) + good, (good[0], ("slot", 2, 0, 0)), good + (None,),
                      ("slot", 0, 0), {good: 1}, ((), good[0], good[1]), (good,)):
            self.assertIs(shows_cut(WAYS, (3,), (), value), False, value)
        for link in good:
            self.assertIs(shows_cut(WAYS, (3,), (link,), good), False)
        self.assertIs(shows_cut(WAYS, (3,), (("root", "a"),), good), True)

    def test_any_value(self):
        for value in ANY:
            self.assertIs(shows_cut(SNAP, (2,), (), value), False)
            self.assertIs(shows_cut(SNAP, (2,), (), (value,)), False)
            self.assertIs(shows_cut(SNAP, (2,), (), (ENTRY, value)), False)
            self.assertIs(shows_cut(SNAP, (2,), (), ((value, 0, 1),)), False)
            self.assertIs(shows_cut(SNAP, (), (), value), value == () and type(value) is tuple)
            for at in (1, 2):
                link = ENTRY[:at] + (value,) + ENTRY[at + 1:]
                self.assertIs(shows_cut(SNAP, (2,), (), (link,)), False)

    def test_all_values_of_small_snapshots(self):
        good = 0
        for shot, victims, fixed in small(random.Random(175), 120, 6):
            for size in range(4):
                for chosen in permutations(links(shot), size):
                    wanted = plain_cuts.is_cut(shot, victims, fixed, chosen)
                    self.assertIs(shows_cut(shot, victims, fixed, chosen), wanted)
                    good += wanted
        self.assertGreater(good, 300)


class TestShowsEvidence(unittest.TestCase):
    GOOD = (((ROOTY, ENTRY),), ((ROOTX, ENTRY),))

    def test_count(self):
        self.assertIs(shows_evidence(SNAP, (2,), (), 1, self.GOOD), True)
        for count in (0, 2, 3, 10 ** 39, None):
            self.assertIs(shows_evidence(SNAP, (2,), (), count, self.GOOD), False)
        # Whatever number fewest_cuts has: fewer ways show fewer links, here none.
        self.assertIs(shows_evidence(SNAP, (2,), (), 0, ((), ())), True)
        self.assertIs(shows_evidence(SNAP, (2,), (), 0, ((),)), False)
        self.assertIs(shows_evidence(SNAP, (2,), (), 1, ((), ())), False)
        self.assertIs(shows_evidence(SNAP, (2,), (), None, ((), ())), False)
        every = links(SNAP)
        self.assertIs(shows_evidence(SNAP, (2,), every, None, self.GOOD), True)
        self.assertIs(shows_evidence(SNAP, (2,), every, 1, self.GOOD), True)
        # A way of fixed links alone may stand there more than once.
        twice = tuple(part * 2 for part in self.GOOD)
        self.assertIs(shows_evidence(SNAP, (2,), every, 2, twice), True)
        self.assertIs(shows_evidence(SNAP, (2,), (), 2, twice), False)
        self.assertIs(shows_evidence(SNAP, (2,), every, None, twice), False)
        for link in every:
            # Only those of the two parts matter that the link is in.
            fixed = tuple(other for other in every if other != link)
            self.assertIs(shows_evidence(SNAP, (2,), fixed, None, self.GOOD), False)

    def test_any_value(self):
        for value in ANY:
            for shown in (value, (value, self.GOOD[1]), (self.GOOD[0], value),
                          ((value,), self.GOOD[1]), (((value,),), self.GOOD[1]),
                          (((ROOTY, value),), self.GOOD[1]), (((value, ENTRY),), self.GOOD[1]),
                          ((("root", value), ENTRY), self.GOOD[1]), self.GOOD + (value,),
                          (((ROOTY, ("entry", value, 1)),), self.GOOD[1])):
                for count in (0, 1, None):
                    self.assertIs(shows_evidence(SNAP, (2,), (), count, shown), False, shown)

    def test_kinds(self):
        one, two = self.GOOD
        for shown in (list(self.GOOD), (list(one), two), (one, ([ROOTX, ENTRY],)),
                      (one, ((list(ROOTX), ENTRY),)), (((ROOTY, ("entry", False, 1)),), two),
                      (one, ((ROOTX, ("entry", 0, True)),)), (one, two, ()), (one,), (two, one)):
            self.assertIs(shows_evidence(SNAP, (2,), (), 1, shown), False, shown)

    def test_ways(self):
        # Object 0 leads to itself, and to 1, which is a victim and leads back.
        shot = ((("a", 0), ("b", 1)), ((0, "counted", "record", ((0, 0), (1, 1))),
                                       (1, "counted", "record", ((0, 0), (1, 2))),
                                       (2, "counted", "record", ())))
        root, ring, on, back = ("root", "a"), ("slot", 0, 0), ("slot", 0, 1), ("slot", 1, 0)
        other, off = ("root", "b"), ("slot", 1, 1)
        for way, good in (
                ((root, on), True), ((root, ring, on), True), ((root, ring, ring, on), False),
                ((other,), True), ((other, back, on), True), ((other, back, ring, on), True),
                ((root, on, back, on), False), ((root, on, back), False), ((root,), False),
                ((on,), False), ((), False), ((root, back), False), ((on, root), False),
                ((root, on, off), False), ((root, other), False), ((other, other), False),
                ((root, on, ("slot", 2, 0)), False), ((root, root, on), False)):
            self.assertIs(shows_evidence(shot, (1,), (), 1, ((way,),)), good, way)
            self.assertIs(shows_evidence(shot, (1,), links(shot), 1, ((way,),)), good, way)
            self.assertIs(shows_evidence(shot, (1,), links(shot), None, ((way,),)), good, way)
        pair = ((root, on), (other,))
        self.assertIs(shows_evidence(shot, (1,), (), 2, (pair,)), True)
        self.assertIs(shows_evidence(shot, (1,), (), 2, ((pair[0], (other, back, on)),)), False)
        self.assertIs(shows_evidence(shot, (1,), (on,), 2, ((pair[0], (other, back, on)),)), True)
        self.assertIs(shows_evidence(shot, (1, 2), (), 1, (((root, on, off),),)), True)

    def test_entries_that_do_not_matter_lead_nowhere(self):
        # The entry leads to object 3, which leads on to nothing.
        shot = ((("a", 0), ("m", 1)), (
            (0, "counted", "record", ()), (1, "traced", "map", ((0, 3), (1, None))),
            (3, "counted", "record", ())))
        self.assertIs(shows_evidence(shot, (0,), (), 1, (((("root", "a"),),),)), True)
        way = (("root", "m"), ("entry", 1, 0))
        self.assertIs(shows_evidence(shot, (0,), (), 1, ((way,),)), False)
        self.assertEqual(len(evidence(shot, (3,))), 2)

    def test_all_values_of_small_snapshots(self):
        good = 0
        for shot, victims, fixed in small(random.Random(176), 60, 5):
            there = links(shot)
            ways = [way for size in range(4) for way in permutations(there, size)]
            many = len(plain_cuts.choices(plain_cuts.mattering(shot, victims)))
            if many > 1:
                continue
            parts = [()] + [(way,) for way in ways] + list(combinations(ways[:30], 2))
            for part in parts:
                for count in (None, 0, 1, 2):
                    wanted = plain_cuts.is_evidence(shot, victims, fixed, count, (part,))
                    self.assertIs(shows_evidence(shot, victims, fixed, count, (part,)), wanted)
                    good += wanted
        self.assertGreater(good, 60)

    def test_changed_evidence(self):
        source = random.Random(177)
        bad = 0
        for shot, victims, fixed in small(source, 500, 14):
            cut = fewest_cuts(shot, victims, fixed)
            count = None if cut is None else len(cut)
            parts = [list(part) for part in evidence(shot, victims, fixed)]
            part = source.choice(parts)
            if not part:
                continue
            at = source.randrange(len(part))
            way = list(part[at])
            change = source.randrange(5)
            if change == 0:
                del part[at]
            elif change == 1:
                part.append(part[at])
            elif change == 2:
                way[source.randrange(len(way))] = source.choice(links(shot))
                part[at] = tuple(way)
            elif change == 3:
                part[at] = tuple(way[1:]) if source.random() < 0.5 else tuple(way[:-1])
            else:
                parts[0], parts[-1] = parts[-1], parts[0]
            value = tuple(tuple(other) for other in parts)
            wanted = plain_cuts.is_evidence(shot, victims, fixed, count, value)
            self.assertIs(shows_evidence(shot, victims, fixed, count, value), wanted)
            bad += not wanted
        self.assertGreater(bad, 150)


class TestLarge(unittest.TestCase):
    def check(self, shot, victims, fixed):
        cut = fewest_cuts(shot, victims, fixed)
        count = None if cut is None else len(cut)
        parts = evidence(shot, victims, fixed)
        self.assertIs(shows_evidence(shot, victims, fixed, count, parts), True)
        if cut is not None:
            self.assertIs(shows_cut(shot, victims, fixed, cut), True)
            dead = set(dies_without(shot, *cut))
            self.assertLessEqual(set(victims) & set(alive(shot)), dead)
            # No set with a lesser link in the same place is a cut, as far as this tries.
            for at, link in enumerate(cut):
                for other in links(shot):
                    changed = tuple(sorted(cut[:at] + (other,) + cut[at + 1:]))
                    if other < link and changed < cut:
                        self.assertIs(shows_cut(shot, victims, fixed, changed), False)
        return count

    def test_wide(self):
        source = random.Random(178)
        counts = set()
        for _ in range(40):
            shot = wide(source, source.randint(20, 50))
            there = alive(shot)
            victims = tuple(source.sample(there, min(3, len(there))))
            fixed = tuple(link for link in links(shot) if source.random() < 0.3)
            if raised(fewest_cuts, shot, victims, fixed) is None:
                counts.add(self.check(shot, victims, fixed))
        self.assertGreater(len(counts), 2)

    def test_layers(self):
        """Many ways that cross: a cut and evidence of one number show each other."""
        source = random.Random(180)
        counts = {}
        for _ in range(150):
            shot = layered(source)
            victims = tuple(row[0] for row in shot[1] if row[0] < 5)
            fixed = tuple(link for link in links(shot) if source.random() < source.choice([0, 0.2]))
            cut = fewest_cuts(shot, victims, fixed)
            count = None if cut is None else len(cut)
            parts = evidence(shot, victims, fixed)
            self.assertTrue(plain_cuts.is_evidence(shot, victims, fixed, count, parts))
            self.assertTrue(cut is None or plain_cuts.is_cut(shot, victims, fixed, cut))
            counts[count] = counts.get(count, 0) + 1
            if cut is not None and len(cut) <= 2:
                self.assertEqual(cut, plain_cuts.fewest_cuts(shot, victims, fixed))
        self.assertGreater(len(counts), 4)

    def test_chain(self):
        shot = chain(120)
        self.assertEqual(fewest_cuts(shot, (119,)), (("root", "a"),))
        fixed = links(shot)[:60] + links(shot)[61:]
        self.assertEqual(fewest_cuts(shot, (119,), fixed), links(shot)[60:61])
        self.assertEqual(evidence(shot, (119,)), ((links(shot),),))

    def test_machines(self):
        source = random.Random(179)
        tried = 0
        for _ in range(60):
            shot = snapshot(lived(source, 60))
            for number in alive(shot):
                if raised(fewest_cuts, shot, (number,)) is None:
                    self.assertIsNotNone(self.check(shot, (number,), ()))
                    tried += 1
        self.assertGreater(tried, 100)


if __name__ == "__main__":
    unittest.main()
