import itertools
import unittest

from mirrordoors.errors import Endless, Unfit
from mirrordoors.hidden import (
    asks_for, can_be, found_makers, found_mirror, found_way, found_whole, parting_door, what_is_sure)
from mirrordoors.makers import is_of, makers, same_family
from tests import family, house
from tests.calls import check_calls, check_lists, check_sets
from tests.test_counts import LONGEST, all_rooms_left, all_sets, barred, great_whole

TWELVE = [
    tuple(("ab" * 100)[:200 - 7 * k] for k in range(12)),
    tuple(house.made_row(k, 200, 8) for k in range(12)),
    ("a", "b") + tuple(("ab" * 100)[:199 - 3 * k] for k in range(10)),
    ("abc", "bca", "cab") + tuple(house.made_row(k, 200, 3) for k in range(9)),
]
LONG = [house.made_row(seed, 200 - 3 * seed, 2 + seed % 7) for seed in range(7)] + ["ab" * 100]


class Asked:
    """An asker that keeps what it is asked, and raises at one of the calls."""

    class Stop(Exception):
        pass

    def __init__(self, told, stop=None):
        self.told = told
        self.stop = stop
        self.calls = []
        self.raised = self.Stop()

    def __call__(self, row):
        if len(self.calls) == self.stop:
            raise self.raised
        self.calls.append(row)
        return self.told(row)


def begun(made):
    """The answers of a hidden family about doors on whose way there is no other door of it."""
    return lambda way: way in made


class CallsTest(unittest.TestCase):
    CALLS = [
        (can_be, {"yes": ("ab", "b"), "no": ("a",)}, True),
        (what_is_sure, {"yes": ("ab", "b"), "no": ("a", "c"), "way": "bab"}, "yes"),
        (what_is_sure, {"yes": ("a",), "no": ("ab", "c"), "way": "b"}, "no"),
        (parting_door, {"one": ("a",), "other": ("a", "bc")}, "bc"),
        (asks_for, {"many": 3, "rooms": 2}, 5),
        (found_whole, {"many": 2, "rooms": 5, "asker": lambda way: len(way) == 2}, ("ab", "ba")),
        (found_makers, {"many": 3, "longest": 2, "asker": lambda way: way in ("a", "bc")}, ("a", "bc")),
        (found_way, {"many": 3, "length": 4, "asker": lambda row: "cabc".startswith(row)}, "cabc"),
        (found_mirror, {"asker": lambda way: family.seen(way, "abc")}, "abc"),
    ]

    def test_by_names(self):
        check_calls(self, self.CALLS)

    def test_sets_and_lists(self):
        check_sets(self, self.CALLS, ("yes", "no", "one", "other"))
        check_lists(self, self.CALLS)


class FactsTest(unittest.TestCase):
    def check_facts(self, families, yes, no, ways):
        """By all families with makers of few letters: those of the FACTS are among them."""
        there = [doors for doors in families if set(yes) <= doors and not set(no) & doors]
        self.assertIs(can_be(yes, no), bool(there), (yes, no))
        for way in ways:
            if not there:
                with self.assertRaises(Unfit) as told:
                    what_is_sure(yes, no, way)
                self.assertEqual(vars(told.exception), {})
                continue
            has = [way in doors for doors in there]
            sure = "yes" if all(has) else "open" if any(has) else "no"
            self.assertEqual(what_is_sure(yes, no, way), sure, (yes, no, way))

    def test_all_near_facts(self):
        for many, longest in ((2, 3), (3, 2)):
            ways = house.ways(many, longest)
            families = [frozenset(family.doors(made, longest)) for made in all_sets(many, longest)]
            for size, other_size in itertools.product(range(3), repeat=2):
                pairs = list(itertools.product(itertools.combinations(ways, size),
                                               itertools.combinations(ways, other_size)))
                for yes, no in pairs[::1 + len(pairs) // 60]:
                    self.check_facts(families, yes, no, ways)
                    self.check_facts(families, yes[::-1] * 2, no[::-1] + no, ways[::3])

    def test_more_facts(self):
        families = [frozenset(family.doors(made, 2)) for made in all_sets(4, 2)]
        ways = house.ways(4, 2)
        for seed in range(40):
            picked = [ways[(seed * 5 + k * k * 3 + k) % len(ways)] for k in range(7)]
            self.check_facts(families, tuple(picked[:3]), tuple(picked[3 + seed % 3:]), ways[::5])

    def test_edges(self):
        self.assertIs(can_be((), ()), True)
        self.assertIs(can_be(("a",), ("a",)), False)
        self.assertEqual([what_is_sure((), (), way) for way in ("a", "h", "abc")], ["open"] * 3)
        self.assertEqual(what_is_sure(("a",), (), "a"), "yes")
        self.assertEqual(what_is_sure((), ("a",), "a"), "no")
        self.assertEqual(what_is_sure((), ("a",), "ab"), "open")
        with self.assertRaises(Unfit):
            what_is_sure(("b", "a"), ("c", "b"), "h")
        with self.assertRaises(Unfit):
            what_is_sure(("ab", "a"), ("b",), "b")

    def test_great_facts(self):
        for yes, no in itertools.permutations(TWELVE, 2):
            there = not any(is_of(yes, way) for way in no)
            self.assertIs(can_be(yes, no), there)
            self.assertIs(can_be(yes, yes[:1]), False)
            self.assertIs(can_be((), no), True)
            for way in LONG[:2] + [yes[3], no[4]]:
                if there:
                    told = what_is_sure(yes, no, way)
                    more = any(is_of(yes + (way,), other) for other in no)
                    self.assertEqual(told, "yes" if is_of(yes, way) else "no" if more else "open")
                else:
                    with self.assertRaises(Unfit):
                        what_is_sure(yes, no, way)


class PartingTest(unittest.TestCase):
    def test_all_near_families(self):
        some = family.some_sets(2, 4, 3, 23) + family.some_sets(3, 3, 2, 19) + [(), ("a", "b"), ("ab", "b")]
        for one, other in itertools.product(some, repeat=2):
            longest = max(map(len, one + other), default=0)
            doors = family.doors(one, longest) ^ family.doors(other, longest)
            least = min(doors, key=lambda way: (len(way), way), default=None)
            told = parting_door(one, other)
            self.assertEqual(told, least, (one, other))
            if told is not None:
                self.assertIn(told, makers(one) + makers(other))

    def test_edges(self):
        self.assertIsNone(parting_door((), ()))
        self.assertEqual(parting_door((), ("abc", "ba", "ca")), "ba")
        self.assertEqual(parting_door(("c", "b"), ("b", "d")), "c")
        for ways in TWELVE:
            self.assertIsNone(parting_door(ways, makers(ways)))
            self.assertEqual(parting_door(ways, ()), min(makers(ways), key=lambda way: (len(way), way)))
        for one, other in itertools.permutations(TWELVE, 2):
            told = parting_door(one, other)
            self.assertEqual(told, parting_door(other, one))
            self.assertIsNot(is_of(one, told), is_of(other, told))
            self.assertIs(same_family(one, other), False)


class WholeTest(unittest.TestCase):
    def check(self, many, made, rooms):
        """rooms are those that the family leaves."""
        doors = sorted({house.door_between(room, house.step(room, letter))
                        for room in rooms for letter in house.LETTERS[:many]})
        self.assertEqual(asks_for(many, len(rooms)), len(doors))
        for bound in sorted({len(rooms), len(rooms) + 1, 200}):
            asker = Asked(begun(made))
            told = found_whole(many, bound, asker)
            self.assertEqual(told, made)
            self.assertIs(type(told), tuple)
            self.assertEqual(sorted(asker.calls), doors)
        for bound in sorted({1, len(rooms) // 2, len(rooms) - 1} - {0, len(rooms)}):
            self.check_endless(many, bound, begun(made), doors)

    def check_endless(self, many, bound, told, doors):
        asker = Asked(told)
        with self.assertRaises(Endless) as raised:
            found_whole(many, bound, asker)
        self.assertEqual(vars(raised.exception), {})
        answers = [told(way) for way in asker.calls]
        self.assertEqual(answers.count(False), bound)
        self.assertIs(answers[-1], False)
        self.assertEqual(len(set(asker.calls)), len(asker.calls))
        self.assertTrue(doors is None or set(asker.calls) <= set(doors))

    def test_all_near_families(self):
        for many, most in ((2, 6), (3, 4), (4, 3), (5, 2), (8, 2)):
            for rooms in range(1, most + 1):
                for tree in all_rooms_left(many, rooms):
                    self.check(many, barred(tree, many), tree)

    def test_great_families(self):
        for many in (2, 3, 8):
            for seed in range(3):
                made = great_whole(many, 200, seed)
                stems = {maker[:-1] for maker in made}
                rooms = sorted({stem[:end] for stem in stems for end in range(len(stem) + 1)})
                self.assertEqual(len(rooms), 200)
                self.check(many, made, rooms)

    def test_endless(self):
        for many in range(2, 9):
            for bound in (1, 2, 3, 50, 200):
                self.check_endless(many, bound, lambda way: False, None)
                self.check_endless(many, bound, lambda way: way == "a", None)
        self.check_endless(3, 7, begun(("a", "b")), None)
        self.assertEqual(found_whole(8, 1, lambda way: True), tuple(house.LETTERS))

    def test_asks_for(self):
        for many in range(2, 9):
            for rooms in (1, 2, 200, 10 ** 40):
                self.assertEqual(asks_for(many, rooms), (many - 1) * rooms + 1)

    def test_what_is_raised_is_passed_on(self):
        made = ("a", "ba", "bc", "c")
        for stop in range(5):
            asker = Asked(begun(made), stop)
            with self.assertRaises(Asked.Stop) as raised:
                found_whole(3, 2, asker)
            self.assertIs(raised.exception, asker.raised)
            self.assertEqual(len(asker.calls), stop)
        self.assertEqual(found_whole(3, 2, Asked(begun(made), 5)), made)


class MakersTest(unittest.TestCase):
    def check(self, many, longest, made):
        asker = Asked(begun(made))
        self.assertEqual(found_makers(many, longest, asker), made)
        return sorted(asker.calls)

    def test_all_near_families(self):
        for many, most in ((2, 4), (3, 2), (4, 2), (8, 1)):
            for longest in range(most + 1):
                ways = house.ways(many, longest) if longest else []
                for made in all_sets(many, longest):
                    doors = sorted(way for way in ways if not any(
                        way.startswith(maker) and way != maker for maker in made))
                    self.assertEqual(self.check(many, longest, made), doors)

    def test_by_all_doors(self):
        """Answers of an asker that knows all doors of the family."""
        for made in all_sets(3, 2):
            doors = family.doors(made, 3)
            for longest in (2, 3):
                asker = Asked(lambda way: way in doors)
                self.assertEqual(found_makers(3, longest, asker), made)
                self.assertFalse([way for way in asker.calls
                                  if any(way[:end] in doors for end in range(1, len(way)))])

    def test_great(self):
        for many, longest in LONGEST.items():
            far = sorted(way for way in house.ways(many, longest) if len(way) == longest)
            for made in ((), tuple(far), tuple(far[::2]), ("a",), ("b",) + tuple(way for way in far[::5]
                                                                               if way[0] != "b")):
                made = tuple(sorted(made))
                doors = self.check(many, longest, made)
                self.assertEqual(len(doors), len(set(doors)))
                if made == ():
                    self.assertEqual(doors, sorted(house.ways(many, longest)))

    def test_edges(self):
        asker = Asked(lambda way: True)
        self.assertEqual(found_makers(5, 0, asker), ())
        self.assertEqual(asker.calls, [])
        self.assertEqual(found_makers(5, 4, asker), tuple("abcde"))
        self.assertEqual(sorted(asker.calls), list("abcde"))

    def test_what_is_raised_is_passed_on(self):
        for stop in range(6):
            asker = Asked(begun(("a", "ba")), stop)
            with self.assertRaises(Asked.Stop) as raised:
                found_makers(3, 2, asker)
            self.assertIs(raised.exception, asker.raised)
            self.assertEqual(len(asker.calls), stop)


class WayTest(unittest.TestCase):
    def check(self, many, way):
        asker = Asked(way.startswith)
        self.assertEqual(found_way(many, len(way), asker), way)
        self.assertLessEqual(len(asker.calls), (many - 1) + (many - 2) * (len(way) - 1))
        for row in asker.calls:
            self.assertFalse(house.has_neighbours(row))
            self.assertTrue(set(row) <= set(house.LETTERS[:many]))
            self.assertLessEqual(len(row), len(way))
        self.assertEqual(len(set(asker.calls)), len(asker.calls))
        return len(asker.calls)

    def test_all_near_ways(self):
        for many, longest in ((2, 7), (3, 5), (4, 4), (8, 2)):
            for way in house.ways(many, longest):
                self.check(many, way)

    def test_great(self):
        for many in range(2, 9):
            for seed in range(3):
                for length in (1, 199, 200):
                    self.check(many, house.made_row(seed, length, many))
        self.assertEqual(self.check(2, "ab" * 100), 1)
        self.assertEqual(self.check(2, "ba" * 100), 1)
        self.check(8, ("hg" * 100))

    def test_what_is_raised_is_passed_on(self):
        for stop in range(3):
            asker = Asked("dcacb".startswith, stop)
            with self.assertRaises(Asked.Stop) as raised:
                found_way(4, 5, asker)
            self.assertIs(raised.exception, asker.raised)
            self.assertEqual(len(asker.calls), stop)


class MirrorTest(unittest.TestCase):
    def check(self, hidden):
        asker = Asked(lambda way: house.seen_by_walking(way, hidden))
        self.assertEqual(found_mirror(asker), hidden)
        self.assertEqual(len(asker.calls), 1)
        self.assertFalse(asker.calls[0] == "" or house.has_neighbours(asker.calls[0]))

    def test_ways(self):
        for hidden in house.ways(3, 5) + house.ways(2, 8) + house.ways(8, 2) + LONG:
            self.check(hidden)

    def test_what_is_raised_is_passed_on(self):
        asker = Asked(None, 0)
        with self.assertRaises(Asked.Stop) as raised:
            found_mirror(asker)
        self.assertIs(raised.exception, asker.raised)


if __name__ == "__main__":
    unittest.main()
