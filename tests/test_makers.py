import itertools
import unittest

from mirrordoors.looks import room_after
from mirrordoors.makers import (
    are_free, are_makers, chain_to, doors_of, folded, how_many_of, is_of, makers, needless,
    same_family, together, within)
from tests import family, house
from tests.calls import check_calls, check_sets

# Sets of WAYs of few letters, each with all doors of its family of at most as many letters.
FEW = family.some_sets(2, 4, 3, 1) + family.some_sets(3, 3, 3, 5) + family.some_sets(3, 2, 4, 2)
FEW += [family.made_set(seed, 2 + seed % 4, 5, 2 + seed % 2) for seed in range(60)]
NEAR = FEW + [family.made_set(seed, 3, 3, 8) for seed in range(10)]
LONGEST = 5
FAMILIES = [(ways, family.doors(ways, LONGEST)) for ways in NEAR]
LONG = [house.made_row(seed, 200 - 3 * seed, 2 + seed % 3) for seed in range(12)]
TWELVE = [
    tuple(LONG), tuple(("ab" * 100)[:200 - 7 * k] for k in range(12)),
    tuple(house.made_row(k, 200, 8) for k in range(12)),
    ("a", "b") + tuple(("ab" * 100)[:199 - 3 * k] for k in range(10)),
    ("abc", "bca", "cab") + tuple(house.made_row(k, 200, 3) for k in range(9)),
    tuple(house.made_row(1, 200, 3)[:200 - 13 * k] for k in range(12)),
]


class ExamplesTest(unittest.TestCase):
    def test_makers(self):
        self.assertEqual(
            (makers(("ab", "b")), makers(["b", "aba", "ab", "b"]), makers(("abc", "ab", "a")), makers(())),
            (('ab', 'b'), ('a', 'b'), ('a', 'b', 'c'), ()))
        self.assertEqual(
            (are_makers(("ab", "b")), are_makers(("a", "ab")), are_makers(("b", "ab")), are_makers(["a"]),
             are_makers(("aa",)), are_makers(())),
            (True, False, False, False, False, True))

    def test_doors(self):
        self.assertEqual(
            (is_of(("ab", "b"), "bab"), is_of(("ab", "b"), "a"), is_of(("a", "b"), "abc"), is_of((), "a")),
            (True, False, False, False))
        self.assertEqual(
            (folded(("ab", "b"), "bab"), folded(("a", "b"), "abc"), folded(("a", "b"), "aba"),
             folded(("ab",), "ab"), folded((), "cab")),
            (('ab', ('b',)), ('c', ('a', 'b')), ('a', ('a', 'b')), ('ab', ()), ('cab', ())))
        self.assertEqual(
            (chain_to(("ab", "b"), "bab"), chain_to(("a", "b"), "aba"), chain_to(("a", "b"), "b"),
             chain_to(("a", "b"), "abc"), chain_to(("ab", "a"), "ab")),
            (('ab', 'b'), ('a', 'b', 'a'), ('b',), None, ('b', 'a')))

    def test_families(self):
        self.assertEqual(
            (within(("ab", "b"), ("a", "b")), within(("a", "b"), ("ab", "b")), within((), ("a",)),
             same_family(("a", "ab"), ("b", "a")), together(("ab",), ("aba",)), together((), ("c", "ca"))),
            (True, False, True, True, ('a', 'b'), ('a', 'c')))
        self.assertEqual(
            (needless(("ab", "b", "bab")), needless(("ab", "b")), are_free(("ab", "b")),
             are_free(("a", "aba")), are_free(("ab", "b", "bab")), are_free(())),
            (('ab', 'bab'), (), True, True, False, True))

    def test_all_doors(self):
        self.assertEqual(
            (doors_of(("a", "b"), 3), doors_of(("ab", "b"), 4), doors_of(("a", "bc"), 4),
             doors_of(("abcabc",), 5)),
            (('a', 'ab', 'aba', 'b', 'ba', 'bab'), ('ab', 'abab', 'b', 'bab'),
             ('a', 'abc', 'bc', 'bcba'), ()))
        self.assertEqual(
            (how_many_of(("a", "b", "c"), 3), how_many_of(("ab", "b"), 60), how_many_of(("a", "bc"), 5),
             how_many_of(("ab",), 2), how_many_of(("ab",), 3)),
            (12, 1, 1, 1, 0))


class CallsTest(unittest.TestCase):
    CALLS = [
        (makers, {"ways": ("b", "aba", "ab")}, ("a", "b")),
        (is_of, {"ways": ("ab", "b"), "way": "bab"}, True),
        (folded, {"ways": ("a", "b"), "way": "abc"}, ("c", ("a", "b"))),
        (chain_to, {"ways": ("ab", "b"), "way": "bab"}, ("ab", "b")),
        (within, {"one": ("ab", "b"), "other": ("a", "b")}, True),
        (same_family, {"one": ("a", "ab"), "other": ("b", "a")}, True),
        (together, {"one": ("ab",), "other": ("aba",)}, ("a", "b")),
        (needless, {"ways": ("ab", "b", "bab")}, ("ab", "bab")),
        (are_free, {"ways": ("ab", "b", "bab")}, False),
        (doors_of, {"ways": ("a", "bc"), "longest": 4}, ("a", "abc", "bc", "bcba")),
        (how_many_of, {"ways": ("a", "b", "c"), "length": 3}, 12),
    ]

    def test_by_names(self):
        check_calls(self, self.CALLS + [(are_makers, {"thing": ("a", "b")}, True)])

    def test_sets_in_any_form(self):
        check_sets(self, self.CALLS, ("ways", "one", "other"))

    def test_kinds(self):
        rest, folds = folded(["b", "a"], "abc")
        self.assertEqual((type(rest), type(folds)), (str, tuple))
        self.assertIs(type(folded([], "a")), tuple)
        self.assertIs(type(makers([])), tuple)
        self.assertIs(type(needless([])), tuple)
        self.assertIs(type(doors_of([], 3)), tuple)


class MakersTest(unittest.TestCase):
    def test_by_all_doors(self):
        for ways, doors in FAMILIES:
            made = makers(ways)
            self.assertEqual(made, family.makers(ways, doors), ways)
            self.assertIs(are_makers(made), True)
            self.assertLessEqual(len(made), len(set(ways)))
            self.assertLessEqual(max(map(len, made), default=0), max(map(len, ways), default=0))
            # The family of the makers is the same family, that of all but one is not.
            self.assertEqual(family.doors(made, LONGEST), doors)
            self.assertEqual(makers(made), made)
            for maker in made:
                fewer = [other for other in made if other != maker]
                self.assertNotIn(maker, family.doors(fewer, LONGEST))
                self.assertIs(same_family(ways, fewer), False)

    def test_any_order(self):
        for ways in NEAR[::9]:
            for order in itertools.permutations(ways):
                self.assertEqual(makers(order), makers(ways))
            self.assertEqual(makers(ways + ways), makers(ways))

    def test_free_of_beginnings(self):
        for ways in NEAR + TWELVE:
            if family.free_of_beginnings(ways):
                self.assertEqual(makers(ways), tuple(sorted(set(ways))))
            made = makers(ways)
            self.assertTrue(family.free_of_beginnings(made))
            self.assertIs(are_makers(made), True)

    def test_long_ways(self):
        self.assertEqual(makers(TWELVE[3]), ("a", "b"))
        for ways in TWELVE:
            made = makers(ways)
            for way in ways:
                self.assertIs(is_of(made, way), True)
                self.assertEqual(family.told(chain_to(ways, way)), way)
            for maker in made:
                self.assertIs(is_of(ways, maker), True)
            self.assertLessEqual(len(made), len(set(ways)))
            self.assertLessEqual(max(map(len, made)), 200)

    def test_all_sets_are_told(self):
        near = house.ways(2, 3) + house.ways(3, 2)
        for count in range(4):
            for thing in itertools.product(near, repeat=count):
                right = list(thing) == sorted(set(thing)) and family.free_of_beginnings(thing)
                self.assertIs(are_makers(thing), right, thing)

    def test_wrong_things(self):
        for thing in house.ODD + ["a", "ab", "", 7, {}]:
            self.assertIs(are_makers(thing), thing == () or thing == ("a",), thing)
            if thing not in ("a", "ab"):
                self.assertIs(are_makers((thing,)), False, thing)
                self.assertIs(are_makers(("b", thing)), False, thing)
                self.assertIs(are_makers((thing, "b")), False, thing)
        for thing in (["a", "b"], (["a"],), (("a",),), ("a", "a"), ("b", "a"), ("a", "ab"), ("ab", "aba"),
                      ("a", "bb"), ("a", ""), ("", "a"), ("a", "b", "ba"), ("ab", "ac", "b", "bab"),
                      ("aba", "abac"), ("a", "i"), ("a", "B"), ("a", True), ("a", None), ("a b",)):
            self.assertIs(are_makers(thing), False, thing)

    def test_beyond_the_bounds(self):
        every = tuple(house.LETTERS[k] + way for k in range(2) for way in house.made_row(k, 3, 8))
        self.assertIs(are_makers(tuple(sorted(set(every)))), family.free_of_beginnings(set(every)))
        many = tuple(row for row in house.rows(3, 9) if len(row) == 9)
        self.assertIs(are_makers(many), True)
        self.assertIs(are_makers(many + ("d",)), True)
        self.assertIs(are_makers(many + ("c",)), False)
        self.assertIs(are_makers(("abababab",) + many[1:]), False)
        self.assertIs(are_makers(many[:1] + many), False)
        self.assertIs(are_makers(("ab" * 1000, "ba" * 1000)), True)
        self.assertIs(are_makers(("ab" * 1000, "ab" * 1000 + "a")), False)


class DoorsTest(unittest.TestCase):
    def test_is_of(self):
        for ways, doors in FAMILIES[::2]:
            for way in house.ways(3, 4):
                self.assertIs(is_of(ways, way), way in doors, (ways, way))
        self.assertIs(is_of((), "a"), False)
        for ways in TWELVE:
            for way in LONG:
                self.assertIs(is_of(ways + (way,), way), True)

    def test_folded(self):
        for ways, doors in FAMILIES[::3]:
            made = family.makers(ways, doors)
            for way in house.ways(3, 5)[::4] + list(ways):
                rest, folds, here = way, [], [way]
                while any(maker != rest and rest.startswith(maker) for maker in made):
                    [maker] = [maker for maker in made if rest.startswith(maker)]
                    rest = house.seen_by_walking(rest, maker)
                    folds.append(maker)
                    here.append(rest)
                self.assertEqual(folded(ways, way), (rest, tuple(folds)))
                self.assertEqual(sorted(map(len, here), reverse=True), [len(one) for one in here])
                self.assertEqual(len(set(map(len, here))), len(here))
                self.assertIs(is_of(ways, way), rest in made)

    def test_folded_long(self):
        for ways in TWELVE:
            made = makers(ways)
            for way in LONG:
                rest, folds = folded(ways, way)
                here = way
                for maker in folds:
                    self.assertTrue(here.startswith(maker) and here != maker)
                    here = house.seen_by_walking(here, maker)
                self.assertEqual(here, rest)
                self.assertFalse([maker for maker in made if rest.startswith(maker) and rest != maker])

    def test_chains(self):
        for ways, doors in FAMILIES[::3]:
            made = family.makers(ways, doors)
            for way in house.ways(3, 4):
                chain = chain_to(ways, way)
                if way not in doors:
                    self.assertIsNone(chain)
                    continue
                self.assertIs(type(chain), tuple)
                self.assertEqual(family.told(chain), way)
                self.assertTrue(set(chain) <= set(made))
                self.assertTrue(all(one != other for one, other in zip(chain, chain[1:])))

    def test_no_two_chains(self):
        for ways in [("a", "b"), ("ab", "b"), ("a", "bc", "ba"), ("abc", "ac", "b"), ("aba", "abc", "c")]:
            made = makers(ways)
            known = {}
            for chain in family.chains(made, 5):
                way = family.told(chain)
                self.assertNotIn(way, known)
                known[way] = chain
                self.assertEqual(chain_to(ways, way), chain)

    def test_long_chains(self):
        self.assertEqual(chain_to(("a", "b"), "ab" * 100), ("b",) + ("a", "b") * 99 + ("a",))
        self.assertEqual(chain_to(("ab",), "ab"), ("ab",))
        self.assertIsNone(chain_to((), "a"))
        self.assertIsNone(chain_to(("a", "b"), ("ab" * 100)[:199] + "c"))


class FamiliesTest(unittest.TestCase):
    def test_two_families(self):
        chosen = FAMILIES[::7]
        for (one, one_doors), (other, other_doors) in itertools.product(chosen, repeat=2):
            inside = set(one) <= other_doors
            self.assertIs(within(one, other), inside)
            self.assertEqual(inside, one_doors <= other_doors)
            self.assertIs(same_family(one, other), one_doors == other_doors)

    def test_together(self):
        for one, other in zip(FEW[::3], FEW[2::3] + FEW[:1]):
            both = family.doors(one + other, LONGEST)
            self.assertEqual(together(one, other), family.makers(one + other, both))
            self.assertEqual(together(list(one), other), makers(one + other))
            self.assertEqual(together(one, ()), makers(one))
            self.assertIs(within(one, together(one, other)), True)
            self.assertIs(within(other, together(one, other)), True)

    def test_edges(self):
        for ways in NEAR[:9] + TWELVE:
            self.assertIs(within((), ways), True)
            self.assertIs(within(ways, ()), ways == ())
            self.assertIs(within(ways, ways), True)
            self.assertIs(same_family(ways, ways[::-1] + ways), True)
            self.assertIs(same_family(ways, makers(ways)), True)
            self.assertIs(same_family(ways, ()), ways == ())
        self.assertIs(within(TWELVE[0], TWELVE[2]), False)
        self.assertIs(within(TWELVE[1], ("a", "b")), True)

    def test_needless(self):
        for ways in NEAR:
            once = sorted(set(ways))
            others = {way: family.doors([one for one in once if one != way], LONGEST) for way in once}
            right = tuple(way for way in once if way in others[way])
            self.assertEqual(needless(ways), right, ways)
            self.assertEqual(needless(list(ways) + list(ways[:1])), right)
        self.assertEqual(needless(("a", "a")), ())
        self.assertEqual(needless(()), ())
        self.assertEqual(needless(TWELVE[3]), tuple(sorted(way for way in TWELVE[3] if way != "b")))
        self.assertEqual(needless(TWELVE[2]), ())

    def test_are_free(self):
        for ways, doors in FAMILIES:
            free = len(family.makers(ways, doors)) == len(set(ways))
            self.assertIs(are_free(ways), free, ways)
            self.assertIs(are_free(ways + ways), free)
        self.assertIs(are_free(TWELVE[2]), True)
        self.assertIs(are_free(TWELVE[3]), False)

    def test_free_by_all_rows(self):
        # If they are not free, few doors in a row are enough where the WAYs have few letters.
        for ways in family.some_sets(2, 3, 3, 1) + family.some_sets(3, 2, 3, 5):
            moved = all(room_after("", row) != "" for row in family.chains(ways, 8))
            self.assertIs(are_free(ways), moved, ways)


class AllDoorsTest(unittest.TestCase):
    def test_doors_of(self):
        for ways, doors in FAMILIES:
            for longest in range(1, LONGEST + 1):
                right = tuple(sorted(way for way in doors if len(way) <= longest))
                self.assertEqual(doors_of(ways, longest), right, ways)
                many = sum(len(way) == longest for way in doors)
                self.assertEqual(how_many_of(ways, longest), many, ways)

    def test_more_letters(self):
        for ways in [("a", "b"), ("ab", "b"), ("abc", "cb"), ("ab", "ac", "ba"), ("abab", "b", "ac")]:
            doors = family.doors(ways, 7)
            for length in range(1, 8):
                self.assertEqual(how_many_of(ways, length), sum(len(way) == length for way in doors))

    def test_great_ones(self):
        self.assertEqual(len(doors_of(house.LETTERS, 5)), len(house.ways(8, 5)))
        self.assertEqual(doors_of(tuple("abc"), 5), tuple(sorted(house.ways(3, 5))))
        for many in range(2, 9):
            ways = tuple(house.LETTERS[:many])
            for length in (1, 2, 59, 60):
                self.assertEqual(how_many_of(ways, length), many * (many - 1) ** (length - 1))
        self.assertEqual([doors_of(TWELVE[2], longest) for longest in (1, 5)], [(), ()])

    def test_no_doors(self):
        self.assertEqual([doors_of((), 1), doors_of((), 5)], [(), ()])
        self.assertEqual([how_many_of((), 1), how_many_of((), 60)], [0, 0])

    def test_great_lengths(self):
        # Of two makers, each door is one seen in both by turns: one for each number of looks.
        for one, other in (("a", "b"), ("abc", "cab"), ("ab", "b"), ("abcdefgh", "hg")):
            counts = dict.fromkeys(range(1, 61), 0)
            for start in ((one, other), (other, one)):
                way = start[0]
                for k in range(62):
                    if len(way) <= 60:
                        counts[len(way)] += 1
                    way = family.seen(way, start[1 - k % 2])
            for length, many in counts.items():
                self.assertEqual(how_many_of((one, other), length), many, (one, other, length))
        for ways in TWELVE:
            for length in (1, 30, 60):
                self.assertGreaterEqual(how_many_of(ways, length), 0)


if __name__ == "__main__":
    unittest.main()
