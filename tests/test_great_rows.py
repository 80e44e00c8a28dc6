import itertools
import unittest

from mirrordoors.errors import NoNumber, Unfit
from mirrordoors.flat import sums_of
from mirrordoors.great import (
    canonical, great_back, great_begins, great_common, great_distance, great_joined, great_length,
    great_letter, great_of, great_palindrome, great_seen_in, great_sums, is_great, spelled)
from tests import family, house
from tests.calls import check_calls, check_form, check_lists, each_part_listed, listed

FAR = 10 ** 40
LONG = [house.made_row(seed, 200 - 7 * seed, 2 + seed % 7) for seed in range(7)] + ["ab" * 100, "abc" * 66]


def spelt(great):
    """The letters that a GREAT tells, one by one."""
    return "".join((x, y)[k % 2] for x, y, many in great for k in range(many))


def by_words(row):
    """The canonical GREAT of a ROW, as the document says it."""
    found = []
    while row:
        if len(row) == 1:
            found.append((row, min(letter for letter in house.LETTERS if letter != row), 1))
            break
        many = 2
        while many < len(row) and row[many] == row[many - 2]:
            many += 1
        found.append((row[0], row[1], many))
        row = row[many:]
    return tuple(found)


def is_one(thing):
    """Whether triples of letters and small numbers, beside each other, are a GREAT."""
    row = "".join((x, y)[k % 2] for x, y, many in thing for k in range(many))
    return all(x != y and many > 0 for x, y, many in thing) and not house.has_neighbours(row)


def all_greats(letters, longest, triples):
    """All GREATs of these letters, of small numbers and few triples."""
    every = [(x, y, many) for x, y in itertools.permutations(letters, 2) for many in range(1, longest + 1)]
    return [great for count in range(triples + 1) for great in itertools.product(every, repeat=count)
            if is_one(great)]


NEAR = all_greats("abc", 3, 2) + all_greats("abc", 2, 3)[::9] + all_greats("abcd", 4, 2)[::11]
SOME = NEAR[:40:3] + NEAR[40::7]


def stretched(great, seed):
    """The GREAT with a great even number more in each triple of two letters or more."""
    return tuple((x, y, many + 2 * (FAR // 7 + seed * k) if many > 1 else many)
                 for k, (x, y, many) in enumerate(great))


def long_great(seed, triples=20):
    """A canonical GREAT of so many great triples: no letter of a next triple goes on with one."""
    found = []
    for k in range(triples):
        x, y = "abcd"[(k + seed) % 4], "abcd"[(k + seed + 1) % 4]
        # It ends with y; the next one begins with y's next letter, or with one that is neither.
        found.append((x, y, FAR - 2 * (seed * 7 + k * k)))
        if k % 2:
            found[-1] = ("efgh"[k % 4], "efgh"[(k + 1) % 4], FAR // 3 * 2 + 2 * k)
    return tuple(found)


class CallsTest(unittest.TestCase):
    GREAT, OTHER = (("a", "b", 3), ("c", "a", 2)), (("a", "b", 2), ("a", "c", 3))
    CALLS = [
        (is_great, {"thing": GREAT}, True),
        (great_of, {"row": "abaca"}, GREAT),
        (spelled, {"great": OTHER}, "abaca"),
        (canonical, {"great": OTHER}, GREAT),
        (great_length, {"great": OTHER}, 5),
        (great_letter, {"great": OTHER, "place": 3}, "c"),
        (great_back, {"great": OTHER}, (("a", "c", 3), ("b", "a", 2))),
        (great_joined, {"one": OTHER, "other": (("a", "c", 1),)}, (("a", "b", 3), ("c", "a", 1))),
        (great_palindrome, {"great": OTHER}, (("a", "b", 3), ("c", "a", 4), ("b", "a", 2))),
        (great_common, {"one": OTHER, "other": GREAT}, 5),
        (great_begins, {"one": OTHER, "other": GREAT}, True),
        (great_distance, {"one": OTHER, "other": (("a", "b", 5),)}, 4),
        (great_seen_in, {"one": (("a", "b", 1),), "other": (("a", "b", 2),)}, (("a", "b", 3),)),
        (great_sums, {"great": (("a", "b", 2),), "many": 2}, (2, -1)),
    ]

    def test_by_names(self):
        check_calls(self, self.CALLS)

    def test_lists_for_tuples(self):
        check_lists(self, self.CALLS)
        for great in SOME:
            form = {"one": listed(great), "other": listed(great[::-1] if is_one(great[::-1]) else great)}
            for function in (great_joined, great_common, great_begins, great_distance):
                check_form(self, (function, {}, function(tuple(map(tuple, form["one"])),
                                                         tuple(map(tuple, form["other"])))), form)


class ThingsTest(unittest.TestCase):
    NOT_ONE = [
        [], [("a", "b", 1)], (["a", "b", 1],), [["a", "b", 1]], (("a", "b"),), (("a", "b", 1, 1),), ((),),
        ("a", "b", 1), ("a",), (("a", "a", 1),), (("a", "b", 0),), (("a", "b", -1),), (("a", "b", True),),
        (("a", "b", False),), (("a", "b", None),), (("a", "b", "1"),), (("a", "b", (1,)),),
        (("a", "b", [1]),), (("", "b", 1),), (("a", "", 1),), (("ab", "c", 1),), (("a", "bc", 1),),
        (("a", "i", 1),), (("i", "a", 1),), (("A", "b", 1),), ((0, "b", 1),), (("a", 1, 1),),
        ((None, "b", 1),), ((("a",), "b", 1),), ((["a"], "b", 1),), (("a", ("b",), 1),), ("ab1",),
        (("a", "b", 2), ("b", "a", 1)), (("a", "b", 1), ("a", "b", 1)), (("a", "b", 1), ("a", "c", 2)),
        (("a", "b", 3), ("a", "b", 1)), (("a", "b", 1), ()), (("a", "b", 1), None), (("a", "b", -FAR),),
        (("a", "b", FAR), ("b", "c", 1)), (("a", "b", FAR + 1), ("a", "c", 1)), {"a": 1}, None, True, 0, "",
        (("a", "b", 1), ("b", "a", 1), ("a", "b", 1), ("b", "b", 1)), ((("a", "b", 1),),), (1, "a", "b"),
        (("a", "b", 2.0),), (("a", True, 1),), ((1, 2, 3),), "aba", ("aba",), (("a", "b", 0), ("b", "a", 2)),
    ]

    def test_all_near_things(self):
        every = [(x, y, many) for x, y in itertools.product("abc", repeat=2) for many in range(-1, 4)]
        for count in range(3):
            for thing in itertools.product(every, repeat=count):
                self.assertIs(is_great(thing), is_one(thing), thing)

    def test_wrong_things(self):
        for thing in self.NOT_ONE + house.ODD + house.NESTED:
            if thing != ():
                self.assertIs(is_great(thing), False, thing)
        for great in SOME + [stretched(great, 3) for great in SOME]:
            self.assertIs(is_great(great), True)
            for form in each_part_listed(great):
                self.assertIs(is_great(form), False)

    def test_beyond_the_bounds(self):
        many = tuple(("a", "b", 2 * k + 2) if k % 2 else ("c", "d", 2 * k + 2) for k in range(3000))
        self.assertIs(is_great(many), True)
        self.assertIs(is_great(many + (("a", "b", 1), ("a", "b", 1))), False)
        self.assertIs(is_great((("a", "b", FAR ** 5), ("c", "b", FAR ** 4))), True)
        self.assertIs(is_great((("a", "b", FAR ** 5), ("b", "c", FAR ** 4))), False)


class NearTest(unittest.TestCase):
    """GREATs of small numbers against the ROWs that they tell, letter by letter."""

    def test_canonical(self):
        for great in NEAR:
            row = spelt(great)
            told = canonical(great)
            self.assertEqual(told, by_words(row), great)
            self.assertIs(is_great(told), True)
            self.assertEqual(great_of(row), told)
            self.assertEqual(spelled(great), row)
            self.assertEqual(spelled(told), row)
            self.assertEqual(great_length(great), len(row))
            self.assertEqual([great_letter(great, place) for place in range(len(row))], list(row))
            self.assertEqual(great_back(great), by_words(row[::-1]))

    def test_rows(self):
        for row in house.rows(3, 6) + house.rows(2, 9) + house.rows(8, 2) + LONG:
            told = great_of(row)
            self.assertEqual(told, by_words(row))
            self.assertEqual(spelled(told), row)
            self.assertEqual(canonical(told), told)

    def test_ways(self):
        for great in NEAR:
            way = spelt(great)
            if way:
                self.assertEqual(great_palindrome(great), by_words(family.pal(way)))
                many = max(2, 1 + max(map(house.LETTERS.index, way)))
                for count in (many, 8):
                    told = great_sums(great, count)
                    self.assertEqual(told, sums_of(way, count))
                    self.assertIs(type(told), tuple)

    def test_two(self):
        for one, other in itertools.product(SOME, repeat=2):
            row, second = spelt(one), spelt(other)
            self.assertEqual(great_joined(one, other), by_words(house.walk("", row + second)))
            like = len([k for k in range(len(row)) if second[:k + 1] == row[:k + 1]])
            self.assertEqual(great_common(one, other), like)
            self.assertIs(great_begins(one, other), second[:len(row)] == row)
            self.assertEqual(great_distance(one, other), len(house.rooms_on(row, second)) - 1)
            if row and second:
                self.assertEqual(great_seen_in(one, other), by_words(house.seen_by_walking(row, second)))

    def test_long_rows(self):
        greats = [great_of(row) for row in LONG]
        for (row, one), (second, other) in itertools.product(zip(LONG, greats), repeat=2):
            self.assertEqual(great_joined(one, other), by_words(house.walk("", row + second)))
            self.assertEqual(great_distance(one, other), len(house.rooms_on(row, second)) - 1)
            self.assertEqual(great_seen_in(one, other), by_words(house.seen_by_walking(row, second)))
            self.assertEqual(great_sums(one, 8), sums_of(row, 8))


class FarTest(unittest.TestCase):
    """GREATs of great numbers, built so that the answer is known."""

    def test_stretched(self):
        """An even number more in a canonical triple of two letters or more leaves all else."""
        for great in SOME:
            made = by_words(spelt(great))
            far = stretched(made, 5)
            self.assertEqual(canonical(far), far)
            self.assertEqual(great_length(far), sum(many for _, _, many in far))
            # Cut into pieces and in other words it tells the same.
            pieces = [piece for x, y, many in far
                      for piece in ([(x, y, 2), (x, y, 1), (y, x, many - 3)] if many > 4 else [(x, y, many)])]
            self.assertEqual(canonical(pieces), far)
            self.assertEqual(great_common(pieces, far), great_length(far))
            self.assertIs(great_begins(far, pieces), True)
            self.assertEqual(great_distance(far, pieces), 0)
            self.assertEqual(great_joined(great_back(pieces), far), ())
            self.assertEqual(great_back(great_back(far)), far)

    def test_twenty(self):
        for seed in range(6):
            far = long_great(seed)
            self.assertIs(is_great(far), True)
            self.assertEqual(canonical(far), far)
            backward = great_back(far)
            self.assertEqual(great_length(backward), great_length(far))
            self.assertEqual(great_joined(far, backward), ())
            self.assertEqual(great_back(backward), far)
            place = 0
            for x, y, many in far:
                for k in (0, 1, 2, many // 2, many - 1):
                    self.assertEqual(great_letter(far, place + k), (x, y)[k % 2])
                    self.assertEqual(great_letter(backward, great_length(far) - 1 - place - k), (x, y)[k % 2])
                place += many
            self.check_twenty(far, long_great(seed + 1))

    def check_twenty(self, far, other):
        self.assertEqual(great_common(far, other), 0)
        self.assertEqual(great_distance(far, other), great_length(far) + great_length(other))
        for cut in range(1, 20, 4):
            # far and another one that goes on otherwise behind its first triples.
            parted = far[:cut] + (("h", "g", FAR),) if far[cut][0] != "h" else far[:cut] + (("g", "h", FAR),)
            shared = great_length(far[:cut])
            self.assertEqual(great_common(far, parted), shared)
            self.assertIs(great_begins(far[:cut], far), True)
            self.assertIs(great_begins(far, far[:cut]), False)
            self.assertEqual(great_distance(far, parted), great_length(far) + great_length(parted) - 2 * shared)
            self.assertEqual(great_joined(great_back(far[:cut]), far), far[cut:])
            self.assertEqual(great_joined(far, great_back(far[cut:])), far[:cut])

    def test_ways(self):
        for seed in range(6):
            way, other = long_great(seed), long_great(seed + 2, 20)
            row = great_palindrome(way)
            self.assertEqual(great_back(row), row)
            self.assertEqual(great_length(row), 2 * great_length(way) - 1)
            self.assertIs(great_begins(way, row), True)
            told = great_seen_in(way, other)
            # Nothing meets its like: the one behind the palindrome of the other one.
            self.assertEqual(told, canonical(great_palindrome(other) + way))
            self.assertEqual(great_seen_in(told[:20], told[:20]), told[:20])
            sums = [0] * 8
            place = 0
            for x, y, many in row:
                sums[house.LETTERS.index(x)] += (-1) ** (place % 2) * ((many + 1) // 2)
                sums[house.LETTERS.index(y)] -= (-1) ** (place % 2) * (many // 2)
                place += many
            self.assertEqual(sum(sums), 1)
            self.assertEqual(great_sums(way, 8), tuple(sums))

    def test_two_letters(self):
        """Rooms of two letters stand in a line, on one side of "" or on the other one."""
        def at(great):
            if great == ():
                return 0
            [(x, _, many)] = great
            return many if x == "a" else -many

        def room(number):
            return () if number == 0 else (("a", "b", number),) if number > 0 else (("b", "a", -number),)

        numbers = [0, 1, -1, 2, -2, 7, FAR, -FAR, FAR - 1, 1 - FAR, FAR // 2, -FAR // 2 + 3]
        for one, other in itertools.product(numbers, repeat=2):
            there = one + (other if one % 2 == 0 else -other)
            told = great_joined(room(one), room(other))
            self.assertEqual(told, room(there))
            self.assertEqual(at(told), there)
            self.assertEqual(great_distance(room(one), room(other)), abs(one - other))
            if one and other:
                # A door is at half between its rooms; seen in another one it is as far behind.
                def half(k):
                    return 2 * k - 1 if k > 0 else 2 * k + 1
                seen = 2 * half(other) - half(one)
                way = (seen + 1) // 2 if seen > 0 else (seen - 1) // 2
                self.assertEqual(great_seen_in(room(one), room(other)), room(way))


class ErrorsTest(unittest.TestCase):
    def test_spelled(self):
        self.assertEqual(spelled((("a", "b", 200),)), "ab" * 100)
        self.assertEqual(spelled((("a", "b", 100), ("c", "b", 100))), "ab" * 50 + "cb" * 50)
        self.assertEqual(spelled(()), "")
        for great in ((("a", "b", 201),), (("a", "b", FAR),), (("a", "b", 100), ("c", "b", 101)),
                      tuple(("abc"[k % 3], "abc"[(k + 1) % 3], 11) for k in range(19))):
            with self.assertRaises(Unfit) as told:
                spelled(great)
            self.assertEqual(vars(told.exception), {})

    def test_places(self):
        for great in NEAR[::5] + [long_great(1), (("a", "b", FAR),)]:
            length = sum(many for _, _, many in great)
            for place in (length, length + 1, -1, -length - 1, -FAR, 21 * FAR):
                with self.assertRaises(NoNumber) as told:
                    great_letter(great, place)
                self.assertEqual(vars(told.exception), {"number": place})
            if length:
                self.assertIn(great_letter(great, length - 1), great[-1][:2])
                self.assertEqual(great_letter(great, 0), great[0][0])

    def test_edges(self):
        single = (("c", "h", 1),)
        self.assertEqual(canonical(single), (("c", "a", 1),))
        self.assertEqual(canonical((("a", "h", 1),)), (("a", "b", 1),))
        self.assertEqual(great_palindrome(single), (("c", "a", 1),))
        self.assertEqual(great_seen_in(single, single), (("c", "a", 1),))
        self.assertEqual(great_sums(single, 3), (0, 0, 1))
        self.assertEqual(great_back(single), (("c", "a", 1),))
        self.assertEqual(canonical((("a", "c", 1), ("b", "d", 1), ("a", "h", 1))), (("a", "b", 3),))
        self.assertEqual((canonical(()), great_back(()), great_joined((), ())), ((), (), ()))
        self.assertEqual((great_length(()), great_common((), single), great_distance((), single)), (0, 0, 1))
        self.assertEqual((great_begins((), single), great_begins(single, ())), (True, False))
        self.assertEqual(great_joined(single, (("c", "a", 2),)), (("a", "b", 1),))
        self.assertEqual(great_joined((), single), (("c", "a", 1),))


if __name__ == "__main__":
    unittest.main()
