import functools
import itertools
import unittest

from mirrordoors.errors import Endless, NoLetter, NoNumber, Unfit
from mirrordoors.makers import is_of, makers, within
from mirrordoors.rooms import is_whole, room_folded, rooms_left
from mirrordoors.small import (
    alike_elsewhere, begun_at, both_small, how_many_mirrors, in_order, is_family, is_mirror, is_small,
    laid_onto, least_mirror, makers_of, room_in, small_of, unlike_starts)
from tests import family, house, points
from tests.calls import check_calls, check_lists, check_sets, each_part_listed, listed
from tests.test_counts import all_rooms_left, barred

SMALL, THIRD, RING = ((0, 1, 0), (1, 0, 1)), ((2, 0), (1, 2), (0, 1)), ((1, 1), (0, 0))
TWO, FOUR = ((1, 0), (0, 1)), ((1, 0), (0, 2), (3, 1), (2, 3))
MAKERS = ("a", "ba", "bc", "c")


def walked(small, word, room=0):
    for letter in word:
        room = small[room][house.LETTERS.index(letter)]
    return room


def reached(small):
    here = [0]
    for room in here:
        here += [there for there in sorted(set(small[room])) if there not in here]
    return here


@functools.lru_cache(maxsize=None)
def all_houses(rooms, letters):
    """All SMALL houses of so many rooms and letters: each letter exchanges some rooms."""
    sheets = [house.exchanged(rooms, sheet) for sheet in points.every_sheet(rooms)]
    houses = [tuple(zip(*put)) for put in itertools.product(sheets, repeat=letters)]
    return [small for small in houses if len(reached(small)) == rooms]


def is_one_of_houses(thing):
    """Whether rooms with numbers from 0 on are a SMALL house, looked at door by door."""
    letters = {len(room) for room in thing}
    if len(letters) != 1 or not 2 <= min(letters) <= 8 or max(map(max, thing)) >= len(thing):
        return False
    for number, room in enumerate(thing):
        for letter, there in enumerate(room):
            if there != number and thing[there][letter] != number:
                return False
    return len(reached(thing)) == len(thing)


def least_rows(small, start=0):
    """The least ROW to each room, of all ROWs the short ones first."""
    rows = {}
    for row in house.rows(len(small[0]), len(small) - 1):
        rows.setdefault(walked(small, row, start), row)
    return rows


def ordered(small, start=0):
    """The house in order, by sorting the least ROWs."""
    rows = least_rows(small, start)
    order = sorted(rows, key=lambda room: (len(rows[room]), rows[room]))
    return tuple(tuple(order.index(there) for there in small[room]) for room in order)


def line(rooms, letters=2):
    """Rooms one behind another, a and b in turn leading on."""
    doors = [[room] * letters for room in range(rooms)]
    for room in range(rooms - 1):
        doors[room][room % 2], doors[room + 1][room % 2] = room + 1, room
    return tuple(map(tuple, doors))


def ring(rooms):
    """An even number of rooms in a ring."""
    return tuple(((room + 1 - 2 * (room % 2)) % rooms, (room - 1 + 2 * (room % 2)) % rooms)
                 for room in range(rooms))


def mixed(seed, rooms, letters):
    """Some house with so many rooms, or fewer if not all can be reached."""
    sheets = []
    for letter in range(letters):
        order = sorted(range(rooms), key=lambda k: (k * (seed + 7 + letter) + seed * k * k * (letter + 3)) % 97)
        many = rooms // 2 - (seed + letter) % 3
        sheets.append([(order[2 * k], order[2 * k + 1]) for k in range(max(many, 0))])
    small = tuple(zip(*[house.exchanged(rooms, sheet) for sheet in sheets]))
    order = reached(small)
    return tuple(tuple(order.index(there) for there in small[room]) for room in order)


NEAR = [small for rooms in (1, 2, 3, 4) for small in all_houses(rooms, 2)]
NEAR += [small for rooms in (1, 2, 3) for small in all_houses(rooms, 3)]
NEAR += all_houses(4, 3)[::37] + all_houses(5, 2)[::9] + all_houses(3, 4)[::41] + all_houses(2, 8)[::29]
GREAT = [line(40), ring(40), line(40, 8)] + [mixed(seed, 40, 2 + seed) for seed in range(7)]


class CallsTest(unittest.TestCase):
    CALLS = [
        (is_small, {"thing": THIRD}, True),
        (in_order, {"small": THIRD}, ((1, 0), (0, 2), (2, 1))),
        (begun_at, {"small": THIRD, "room": 2}, ((1, 2), (0, 1), (2, 0))),
        (room_in, {"small": SMALL, "word": "abc"}, 1),
        (is_mirror, {"small": SMALL, "way": "abc"}, True),
        (how_many_mirrors, {"small": SMALL, "length": 3}, 8),
        (least_mirror, {"small": THIRD}, "b"),
        (small_of, {"ways": MAKERS, "many": 3}, SMALL),
        (is_family, {"small": THIRD}, True),
        (makers_of, {"small": SMALL}, MAKERS),
        (laid_onto, {"one": FOUR, "other": TWO}, (0, 1, 1, 0)),
        (both_small, {"one": TWO, "other": ((0, 1), (1, 0))}, ((1, 2), (0, 3), (3, 0), (2, 1))),
        (alike_elsewhere, {"one": THIRD, "other": ((1, 2), (0, 1), (2, 0))}, True),
        (unlike_starts, {"small": THIRD}, 3),
    ]

    def test_by_names(self):
        check_calls(self, self.CALLS)

    def test_lists_and_sets(self):
        check_lists(self, self.CALLS)
        check_sets(self, self.CALLS, ("ways",))

    def test_tuples_come_back(self):
        for small in NEAR[::11]:
            for told in (in_order(listed(small)), begun_at(listed(small), 0), both_small(listed(small), small)):
                self.assertIs(is_small(told), True)


class ThingsTest(unittest.TestCase):
    NOT_ONE = [
        (), [(0, 0)], ([0, 0],), [[0, 0]], ((0,),), ((0,) * 9,), ((),), (0, 0), (0,), ((0, 1), (0, 1)),
        ((0, 0), (1, 1)), ((0, 0), (0, 0)), ((0, 1),), ((1, 0),), ((0, -1),), ((0, 2), (1, 0)),
        ((True, 0), (0, 1)), ((1, 0), (False, 1)), ((False, False),), ((0, None),), ((0, "0"),), ("00",),
        ((0, (0,)),), (((0, 0),),), ((0, 0), ()), ((0, 0), None), ((0, 0, 0), (1, 1)),
        ((1, 0, 0), (0, 1)), ((1, 0), (0, 1, 1)), ((1, 2), (0, 1), (2, 1)), ((1, 0), (2, 1), (1, 2)),
        ((0, 1), (1, 0), (2, 2)), ((1, 1), (0, 0), (2, 2)), ((1, 0), (0, 1), (3, 2), (2, 3)),
        ((0, 10 ** 40),), ((0, 0), (0, 0), (0, 0)), {0: (0, 0)}, None, True, False, 0, 1, "a", "",
        ((0, 0),) * 2, ((1, 0), (0, 2), (2, 1), (3, 3)), ((1, 2), (2, 0), (0, 1)),
    ]

    def test_all_near_things(self):
        for rooms, letters in ((1, 1), (1, 2), (2, 2), (3, 2), (4, 2), (2, 3), (3, 3), (1, 8), (1, 9)):
            known = set(all_houses(rooms, letters)) if 2 <= letters <= 8 else set()
            every = list(itertools.product(range(rooms), repeat=letters))
            for thing in itertools.product(every, repeat=rooms):
                self.assertIs(is_small(thing), thing in known, thing)

    def test_wrong_things(self):
        for thing in self.NOT_ONE + house.ODD + house.NESTED:
            self.assertIs(is_small(thing), False, thing)
        for small in NEAR[::17] + [SMALL, THIRD, RING]:
            for form in each_part_listed(small):
                self.assertIs(is_small(form), False)
            self.assertIs(is_small(small + (small[0],)), False)
            self.assertIs(is_small(small + (tuple([len(small)] * len(small[0])),)), False)
            self.assertIs(is_small(tuple(room[:1] for room in small)), False)
            self.assertIs(is_small(tuple(room[:1] * 9 for room in small)), False)
        for depth in range(1, 11):
            self.assertIs(is_small(house.nested((0, 0), depth, tuple)), depth == 1)

    def test_many_rooms(self):
        for small in GREAT + [line(3000), ring(3000), mixed(5, 500, 4)]:
            self.assertIs(is_small(small), True)
            self.assertIs(is_small(small[1:] + small[:1]), False)
        far = line(3000)
        self.assertIs(is_small(far[:-1]), False)
        self.assertIs(is_small(far[:-2] + ((2998, 2997), (2999, 2999))), False)


class OrderTest(unittest.TestCase):
    def test_in_order(self):
        for small in NEAR:
            self.assertEqual(in_order(small), ordered(small), small)
            self.assertEqual(in_order(in_order(small)), in_order(small))
            for room in range(len(small)):
                self.assertEqual(begun_at(small, room), ordered(small, room))

    def test_great(self):
        self.assertEqual(in_order(line(40)), line(40))
        self.assertEqual(begun_at(line(40), 0), line(40))
        self.assertEqual(begun_at(ring(40), 6), in_order(ring(40)))
        for small in GREAT:
            for room in (0, len(small) - 1):
                told = begun_at(small, room)
                self.assertIs(is_small(told), True)
                for word in [house.made_row(seed, 200, len(small[0])) for seed in range(3)] + ["", "a", "ba"]:
                    for length in range(0, len(word) + 1, 7):
                        there = walked(small, word[:length], room)
                        self.assertEqual(begun_at(told, walked(told, word[:length])), begun_at(small, there))
                rows = least_by_steps(told)
                self.assertEqual(rows, sorted(rows, key=lambda row: (len(row), row)))

    def test_no_number(self):
        for small in (THIRD, RING, SMALL, ((0, 0),), line(40)):
            for number in (len(small), len(small) + 1, -1, -len(small), 10 ** 40, -10 ** 40):
                with self.assertRaises(NoNumber) as told:
                    begun_at(small, number)
                self.assertEqual(vars(told.exception), {"number": number})

    def test_starts(self):
        for small in NEAR:
            starts = [ordered(small, room) for room in range(len(small))]
            self.assertEqual(unlike_starts(small), len(set(starts)))
        self.assertEqual([unlike_starts(small) for small in (line(40), line(39), ring(40), ((0,) * 8,))],
                         [20, 39, 1, 1])

    def test_elsewhere(self):
        some = [small for small in NEAR if len(small) < 4][::3]
        for one, other in itertools.product(some, repeat=2):
            there = ordered(other) in [ordered(one, room) for room in range(len(one))]
            self.assertIs(alike_elsewhere(one, other), there, (one, other))
        for small in GREAT:
            self.assertIs(alike_elsewhere(small, begun_at(small, len(small) // 2)), True)
            self.assertIs(alike_elsewhere(small, ((0,) * len(small[0]),)), False)
        self.assertIs(alike_elsewhere(((0, 0),), ((0, 0, 0),)), False)


def least_by_steps(small):
    """The least ROW to each room of a house, in the order of the rooms."""
    rows = {0: ""}
    here = [0]
    while here:
        found = sorted((rows[room] + letter, there) for room in here
                       for letter, there in zip(house.LETTERS, small[room]) if there not in rows)
        for row, there in found:
            rows.setdefault(there, row)
        here = [room for room in rows if rows[room] in {row for row, _ in found}]
    return [rows[room] for room in range(len(small))]


class WordsTest(unittest.TestCase):
    def test_rooms_and_mirrors(self):
        for small in NEAR[::3] + [SMALL, THIRD, RING]:
            letters = len(small[0])
            for word in house.words(letters, 5 if letters < 3 else 3 if letters < 5 else 1):
                self.assertEqual(room_in(small, word), walked(small, word))
            for way in house.ways(letters, 5 if letters < 3 else 3 if letters < 5 else 2):
                there = walked(small, way) == walked(small, way[:-1])
                self.assertIs(is_mirror(small, way), there)

    def test_long_words(self):
        for small in GREAT:
            for seed in range(3):
                row = house.made_row(seed, 200, len(small[0]))
                self.assertEqual(room_in(small, row), walked(small, row))
                self.assertEqual(room_in(small, row + row[::-1]), 0)
                self.assertIs(is_mirror(small, row), walked(small, row) == walked(small, row[:-1]))
        self.assertEqual(room_in(line(40), ("ab" * 100)[:39]), 39)

    def test_no_letter(self):
        for small in (RING, SMALL, THIRD, ((0,) * 7,)):
            known = house.LETTERS[:len(small[0])]
            for word in house.ways(4, 4) + ["h", "ah", "bhg", "abababhc"]:
                missing = [letter for letter in word if letter not in known]
                for function in (room_in, is_mirror):
                    if missing:
                        with self.assertRaises(NoLetter) as told:
                            function(small, word)
                        self.assertEqual(vars(told.exception), {"letter": missing[0]})
                    else:
                        function(small, word)
        with self.assertRaises(NoLetter) as told:
            room_in(RING, "aabbdcdd")
        self.assertEqual(told.exception.letter, "d")

    def test_how_many_mirrors(self):
        for small in NEAR[::2] + [SMALL, THIRD, RING]:
            letters = len(small[0])
            longest = 7 if letters < 3 else 5 if letters < 4 else 3
            ways = [way for way in house.ways(letters, longest) if walked(small, way) == walked(small, way[:-1])]
            for length in range(1, longest + 1):
                here = [way for way in ways if len(way) == length]
                self.assertEqual(how_many_mirrors(small, length), len(here))
            self.assertEqual(least_mirror(small), min(ways, key=lambda way: (len(way), way), default=None))

    def test_great_mirrors(self):
        for small in GREAT:
            letters = len(small[0])
            came = {(0, None): 1}
            for length in range(1, 61):
                further, mirrors = {}, 0
                for (room, last), many in came.items():
                    for letter in range(letters):
                        if letter != last:
                            there = small[room][letter]
                            further[there, letter] = further.get((there, letter), 0) + many
                            mirrors += many if there == room else 0
                came = further
                if length in (1, 2, 13, 40, 60):
                    self.assertEqual(how_many_mirrors(small, length), mirrors)
        self.assertEqual(how_many_mirrors(((0,) * 8,), 60), 8 * 7 ** 59)

    def test_least_mirror(self):
        self.assertEqual([least_mirror(small) for small in (ring(40), line(40), line(40, 8))],
                         [None, "b", "b"])
        far = ring(38)[:-1] + (ring(38)[-1][:1] + (37,),)
        far = ((far[0][0], 0),) + far[1:]
        self.assertIs(is_small(far), True)
        self.assertEqual(least_mirror(far), "b")
        self.assertEqual(least_mirror(begun_at(far, 19)), min(
            [way + letter for start in "ab" for way in [(start + "ba"[start == "b"]) * 20]
             for way in [way[:length] for length in range(38)] for letter in "ab"
             if walked(begun_at(far, 19), way + letter) == walked(begun_at(far, 19), way)
             and not way.endswith(letter)], key=lambda way: (len(way), way)))


class FamilyTest(unittest.TestCase):
    SETS = [(2, ("a", "b")), (2, ("ab", "b")), (2, ("aba", "b")), (2, ("abab", "baba")), (3, MAKERS),
            (3, ("a", "b", "c")), (3, ("ab", "ac", "b", "c")), (3, ("b", "a", "abc", "c", "ab")),
            (3, ("a", "b", "ca", "cba", "cbc")), (4, ("a", "b", "c", "d")), (8, tuple("abcdefgh")),
            (4, ("a", "b", "c", "da", "db", "dc")), (2, ("aba", "b", "bab"))]

    def test_small_of(self):
        for many, ways in self.SETS:
            told = small_of(ways, many)
            self.assertIs(is_small(told), True)
            self.assertEqual(told, ordered(told) if many < 8 else told)
            rooms = rooms_left(ways, many)
            self.assertEqual(len(told), len(rooms))
            for row in house.rows(many, 6 if many < 4 else 3):
                self.assertEqual(rooms[room_in(told, row)], room_folded(ways, row)[0])
                if row:
                    self.assertIs(is_mirror(told, row), is_of(ways, row))
            self.assertIs(is_family(told), True)
            self.assertEqual(makers_of(told), family.makers(ways))

    def test_endless(self):
        for many, ways in ((2, ("a",)), (3, ("a", "b")), (2, ()), (8, ()), (4, MAKERS), (2, ("abab",))):
            with self.assertRaises(Endless) as told:
                small_of(ways, many)
            self.assertEqual(vars(told.exception), {})
            self.assertIs(is_whole(ways, many), False)

    def test_great_families(self):
        far = ("ab" * 100, "ba" * 100)
        told = small_of(far + (("ab" * 150)[:200],), 2)
        self.assertEqual(len(told), 399)
        self.assertEqual(makers_of(told), far)
        self.assertIs(is_family(told), True)
        ten = ("a", "b", "c", "d", "e", "f", "ga", "gb", "gc", "gd", "ge", "gf")
        self.assertEqual(makers_of(small_of(ten, 7)), ten)
        self.assertEqual(makers_of(line(40)), tuple(sorted([("ab" * 20)[:40], "b"])))
        self.assertEqual(len(makers_of(line(40, 8))), 6 * 40 + 2)

    def families(self, rooms, letters):
        """The houses of all whole families that leave so many rooms."""
        found = {}
        for tree in all_rooms_left(letters, rooms):
            order = sorted(tree, key=lambda room: (len(room), room))
            doors = [[house.step(room, letter) for letter in house.LETTERS[:letters]] for room in order]
            small = tuple(tuple(order.index(there if there in tree else room) for there in beyond)
                          for room, beyond in zip(order, doors))
            found[small] = barred(tree, letters)
        return found

    def test_all_near_families(self):
        for rooms, letters in ((1, 2), (2, 2), (3, 2), (4, 2), (5, 2), (1, 3), (2, 3), (3, 3), (4, 3), (2, 4)):
            known = self.families(rooms, letters)
            for small in all_houses(rooms, letters):
                there = ordered(small) in known
                self.assertIs(is_family(small), there, small)
                on = {frozenset([room, there]) | {(letter,)} for room, doors in enumerate(small)
                      for letter, there in enumerate(doors) if there != room}
                self.assertIs(there, len(on) == rooms - 1)
                if there:
                    self.assertEqual(makers_of(small), known[ordered(small)])
                    self.assertEqual(small_of(makers_of(small), letters), ordered(small))
                else:
                    with self.assertRaises(Unfit) as told:
                        makers_of(small)
                    self.assertEqual(vars(told.exception), {})

    def test_laid_onto_is_within(self):
        for rooms, letters in ((3, 2), (2, 3), (3, 3)):
            known = [(small, made) for size in range(1, rooms + 1)
                     for small, made in self.families(size, letters).items()]
            for (one, made), (other, other_made) in itertools.product(known, repeat=2):
                self.assertIs(laid_onto(one, other) is not None, within(made, other_made))
        chain = [("ab", "b"), ("aba", "b"), ("a", "b"), ("abab", "baba"), ("ab", "ba")]
        for one, other in itertools.product(chain, repeat=2):
            there = laid_onto(small_of(one, 2), small_of(other, 2))
            self.assertIs(there is not None, within(one, other))


class LaidTest(unittest.TestCase):
    def all_laid(self, one, other):
        """All ways to lay the rooms of one onto those of other, tried."""
        found = []
        for laid in itertools.product(range(len(other)), repeat=len(one)):
            if laid[0] == 0 and all(laid[there] == other[laid[room]][letter] for room, doors in enumerate(one)
                                    for letter, there in enumerate(doors)):
                found.append(laid)
        return found

    def test_all_near_houses(self):
        some = [small for small in NEAR if len(small) < 4 and len(small[0]) < 3] + all_houses(4, 2)[::5]
        three = [small for small in NEAR if len(small) < 4 and len(small[0]) == 3][::9]
        pairs = list(itertools.product(some, repeat=2)) + list(itertools.product(three, repeat=2))
        for one, other in pairs:
            found = self.all_laid(one, other)
            told = laid_onto(one, other)
            self.assertEqual(found, [] if told is None else [told])
            longest = 6 if len(one[0]) == 2 else 4
            words = [word for word in house.words(len(one[0]), longest) if walked(one, word) == 0]
            if told:
                self.assertEqual([walked(other, word) for word in words], [0] * len(words))
            elif len(one) * len(other) <= 6:
                self.assertTrue(any(walked(other, word) for word in words), (one, other))

    def test_both(self):
        some = [small for small in NEAR if len(small) < 4 and len(small[0]) == 2]
        some += [small for small in NEAR if len(small) < 3 and len(small[0]) == 3]
        for one, other in itertools.product(some, repeat=2):
            if len(one[0]) == len(other[0]):
                told = both_small(one, other)
                self.assertIs(is_small(told), True)
                self.assertEqual(in_order(told), told)
                self.assertEqual(told, both_small(other, one))
                for word in house.words(len(one[0]), 6 if len(one[0]) == 2 else 4):
                    there = walked(one, word) == 0 and walked(other, word) == 0
                    self.assertIs(walked(told, word) == 0, there)
                self.assertIsNotNone(laid_onto(told, one))
                self.assertIsNotNone(laid_onto(told, other))
                self.assertLessEqual(len(told), len(one) * len(other))

    def test_both_great(self):
        for one, other in ((line(12), ring(12)), (mixed(1, 12, 8), mixed(2, 12, 8)), (line(12), line(11)),
                           (ring(10), ring(12)), (mixed(3, 12, 5), mixed(4, 12, 5))):
            told = both_small(one, other)
            self.assertIs(is_small(told), True)
            pairs = set()
            for seed in range(9):
                row = house.made_row(seed, 200, len(one[0]))
                for length in range(201):
                    pair = (walked(one, row[:length]), walked(other, row[:length]))
                    pairs.add((walked(told, row[:length]),) + pair)
            self.assertEqual(len({pair[0] for pair in pairs}), len(pairs))
            self.assertEqual(len({pair[1:] for pair in pairs}), len(pairs))
        self.assertEqual(len(both_small(ring(10), ring(12))), 60)
        self.assertEqual(both_small(ring(6), ring(12)), in_order(ring(12)))
        self.assertEqual(both_small(line(12), line(12)), line(12))

    def test_laid_great(self):
        self.assertEqual(laid_onto(ring(40), ring(20)), tuple(range(20)) * 2)
        self.assertEqual(laid_onto(ring(40), ring(40)), tuple(range(40)))
        self.assertIsNone(laid_onto(ring(20), ring(40)))
        self.assertIsNone(laid_onto(line(40), line(39)))
        for small in GREAT:
            self.assertEqual(laid_onto(small, small), tuple(range(len(small))))
            self.assertEqual(laid_onto(small, ((0,) * len(small[0]),)), (0,) * len(small))

    def test_unfit(self):
        for one, other in itertools.product([((0,) * letters,) for letters in range(2, 9)], repeat=2):
            for function in (laid_onto, both_small):
                if len(one[0]) == len(other[0]):
                    function(one, other)
                else:
                    with self.assertRaises(Unfit) as told:
                        function(one, other)
                    self.assertEqual(vars(told.exception), {})


class MakersTest(unittest.TestCase):
    def test_makers_as_sets(self):
        for many, ways in FamilyTest.SETS:
            told = makers_of(small_of(ways, many))
            self.assertEqual(told, makers(ways))
            self.assertEqual(told, tuple(sorted(set(told))))


if __name__ == "__main__":
    unittest.main()
