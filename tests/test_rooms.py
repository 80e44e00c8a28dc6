import itertools
import unittest
from fractions import Fraction

from mirrordoors.errors import NoNumber
from mirrordoors.looks import room_after
from mirrordoors.makers import is_of, makers
from mirrordoors.rooms import (
    doors_between, how_many_left, how_many_rooms, is_left, is_whole, left_at, room_folded,
    rooms_left, same_rest, share, shares, steps_out, turns_to)
from tests import family, house
from tests.calls import check_calls, check_sets

FOUR = ("a", "ba", "bc", "c")
NEAR = family.some_sets(2, 4, 3, 2) + family.some_sets(3, 3, 3, 31) + family.some_sets(3, 2, 5, 7)
NEAR += [family.made_set(seed, 2 + seed % 4, 5, 2 + seed % 2) for seed in range(30)]
# Whole families of the houses of two, three and four letters among them.
WHOLE = [
    (2, ("a", "b")), (2, ("ab", "b")), (2, ("aba", "b")), (2, ("abab", "baba")), (3, ("a", "b", "c")),
    (3, FOUR), (3, ("ab", "ac", "b", "c")), (3, ("ab", "ac", "ba", "bc", "ca", "cb")),
    (3, ("a", "b", "ca", "cba", "cbc")), (4, ("a", "b", "c", "d")),
    (4, ("a", "b", "c", "da", "db", "dc")), (3, ("b", "a", "abc", "c", "ab")),
]
TWELVE = [
    tuple(("ab" * 100)[:200 - 7 * k] for k in range(12)),
    tuple(house.made_row(k, 200, 8) for k in range(12)),
    ("a", "b") + tuple(("ab" * 100)[:199 - 3 * k] for k in range(10)),
    ("abc", "bca", "cab") + tuple(house.made_row(k, 200, 3) for k in range(9)),
    tuple(house.made_row(1, 200, 3)[:200 - 13 * k] for k in range(12)),
]
LONG = [house.made_row(seed, 200 - seed, 2 + seed % 3) for seed in range(6)]


def left_by_words(made, rooms):
    """Those of these rooms that no maker begins."""
    return [room for room in rooms if not any(room.startswith(maker) for maker in made)]


def folded_by_words(made, room):
    folds = []
    while any(room.startswith(maker) for maker in made):
        [maker] = [maker for maker in made if room.startswith(maker)]
        room = house.turned_by_walking(maker, room)
        folds.append(maker)
    return room, tuple(folds)


def doors_on_the_way(one, other):
    rooms = house.rooms_on(one, other)
    return [house.door_between(*pair) for pair in zip(rooms, rooms[1:])]


class ExamplesTest(unittest.TestCase):
    def test_folded(self):
        self.assertEqual(
            (room_folded(FOUR, "abc"), room_folded(FOUR, "ca"), room_folded(FOUR, "b"),
             is_left(FOUR, "b"), is_left(FOUR, "ba"), room_folded(("abc", "a"), "abcb")),
            (('b', ('a', 'bc')), ('', ('c', 'a')), ('b', ()), True, False, ('', ('a', 'bc'))))

    def test_turns(self):
        self.assertEqual(
            (same_rest(FOUR, "abc", "b"), same_rest(FOUR, "ca", "b"), turns_to(FOUR, "abc", "b"),
             turns_to(FOUR, "b", "abc"), turns_to(FOUR, "ca", "a"), turns_to(FOUR, "a", "b"),
             turns_to(FOUR, "c", "c")),
            (True, False, ('a', 'bc'), ('bc', 'a'), ('c',), None, ()))

    def test_doors(self):
        self.assertEqual(
            (doors_between(FOUR, "abc", "ca"), doors_between(FOUR, "", "b"),
             doors_between(("bc",), "bca", "b"), steps_out(FOUR, ""), steps_out(("bc",), "a"),
             steps_out(("bc",), "bca"), steps_out((), "ab")),
            (4, 0, 1, 1, 3, 2, None))

    def test_shares(self):
        self.assertEqual(
            (share("ba", 3), share("abab", 2), shares(FOUR, 3), shares(("a", "abc"), 3), shares((), 5),
             is_whole(FOUR, 3), is_whole(FOUR, 4)),
            ((1, 6), (1, 2), (1, 1), (1, 2), (0, 1), True, False))

    def test_rooms(self):
        self.assertEqual(
            (rooms_left(FOUR, 3), rooms_left(("aba", "b"), 2), rooms_left(FOUR, 4),
             how_many_rooms(FOUR, 3), how_many_rooms(("a",), 2)),
            (['', 'b'], ['', 'a', 'ab'], None, 2, None))
        self.assertEqual(
            ([how_many_left(("a",), 3, length) for length in range(4)], how_many_left(FOUR, 3, 2),
             how_many_left((), 2, 200), [left_at(("a",), 3, 2, number) for number in range(4)]),
            ([1, 2, 4, 8], 0, 2, ['ba', 'bc', 'ca', 'cb']))

    def test_no_number(self):
        with self.assertRaises(NoNumber) as told:
            left_at(("a",), 3, 2, 4)
        self.assertEqual(vars(told.exception), {"number": 4})


class CallsTest(unittest.TestCase):
    CALLS = [
        (is_left, {"ways": FOUR, "room": "b"}, True),
        (room_folded, {"ways": FOUR, "room": "abc"}, ("b", ("a", "bc"))),
        (same_rest, {"ways": FOUR, "one": "abc", "other": "b"}, True),
        (turns_to, {"ways": FOUR, "one": "abc", "other": "b"}, ("a", "bc")),
        (doors_between, {"ways": FOUR, "one": "abc", "other": "ca"}, 4),
        (steps_out, {"ways": ("bc",), "room": "a"}, 3),
        (share, {"way": "ba", "many": 3}, (1, 6)),
        (shares, {"ways": ("a", "abc"), "many": 3}, (1, 2)),
        (is_whole, {"ways": FOUR, "many": 3}, True),
        (rooms_left, {"ways": ("aba", "b"), "many": 2}, ["", "a", "ab"]),
        (how_many_rooms, {"ways": FOUR, "many": 3}, 2),
        (how_many_left, {"ways": ("a",), "many": 3, "length": 2}, 4),
        (left_at, {"ways": ("a",), "many": 3, "length": 2, "number": 1}, "bc"),
    ]

    def test_by_names(self):
        check_calls(self, self.CALLS)

    def test_sets_in_any_form(self):
        check_sets(self, self.CALLS, ("ways",))

    def test_lists_are_new(self):
        told = rooms_left(FOUR, 3)
        told.append("x")
        self.assertEqual(rooms_left(FOUR, 3), ["", "b"])


class FoldedTest(unittest.TestCase):
    def test_all_near_rooms(self):
        for ways in NEAR:
            made = family.makers(ways)
            for room in house.rows(3, 4):
                rest, folds = folded_by_words(made, room)
                told = room_folded(ways, room)
                self.assertEqual(told, (rest, folds))
                self.assertIs(type(told), tuple)
                self.assertIs(type(told[1]), tuple)
                self.assertIs(is_left(ways, room), room in left_by_words(made, [room]))
                self.assertIs(is_left(ways, room), folds == ())
                self.assertIs(is_left(ways, rest), True)

    def test_long_rooms(self):
        for ways in TWELVE:
            made = makers(ways)
            for room in LONG + list(ways[:3]) + [""]:
                self.assertEqual(room_folded(ways, room), folded_by_words(made, room))
                self.assertEqual(is_left(ways, room), left_by_words(made, [room]) == [room])
        self.assertEqual(room_folded(("a", "b"), "ab" * 100), ("", ("a", "b") * 100))

    def test_no_doors(self):
        for room in house.rows(3, 3) + LONG:
            self.assertEqual(room_folded((), room), (room, ()))
            self.assertIs(is_left((), room), True)
        self.assertIs(is_left(FOUR, ""), True)
        self.assertEqual(room_folded(FOUR, ""), ("", ()))


class TurnsTest(unittest.TestCase):
    def led(self, made, room, turns):
        """For each room to which so few makers lead: the tuples of as few makers that do."""
        found, here = {room: [()]}, {room: [()]}
        for _ in range(turns):
            further = {}
            for place, known in here.items():
                for maker in made:
                    there = house.turned_by_walking(maker, place)
                    if there not in found:
                        further.setdefault(there, []).extend(row + (maker,) for row in known)
            found.update(further)
            here = further
        return found

    def test_shortest_turns(self):
        for ways in NEAR[::4] + [FOUR, ("a", "b"), ("ab", "b")]:
            made = family.makers(ways)
            for one in house.rows(3, 2):
                found = self.led(made, one, 4)
                for other in house.rows(3, 3):
                    turns = turns_to(ways, one, other)
                    same = folded_by_words(made, one)[0] == folded_by_words(made, other)[0]
                    self.assertIs(same_rest(ways, one, other), same)
                    self.assertEqual(turns is not None, same)
                    if other in found:
                        # There are no two shortest ones.
                        self.assertEqual(found[other], [turns])
                    else:
                        self.assertTrue(turns is None or len(turns) > 4)

    def test_led_by_doors_of_the_family(self):
        for ways in NEAR[::6]:
            doors = sorted(family.doors(ways, 5))[:12]
            for one in house.rows(3, 2):
                for turns in itertools.product(doors, repeat=2):
                    other = house.led_by_walking(one, turns)
                    self.assertIs(same_rest(ways, one, other), True)
                    told = turns_to(ways, one, other)
                    self.assertTrue(set(told) <= set(makers(ways)))
                    self.assertEqual(house.led_by_walking(one, told), other)

    def test_long_ones(self):
        for ways in TWELVE:
            made = makers(ways)
            for one, other in itertools.product(LONG[:3], repeat=2):
                turns = turns_to(ways, one, other)
                self.assertEqual(turns is not None, same_rest(ways, one, other))
                there = house.led_by_walking(one, made[:3] * 3)
                turns = turns_to(ways, one, there)
                self.assertEqual(room_after(one, turns), there)
                self.assertEqual(turns_to(ways, there, one), turns[::-1])
                self.assertTrue(all(a != b for a, b in zip(turns, turns[1:])))
            self.assertEqual(turns_to(ways, LONG[0], LONG[0]), ())

    def test_no_doors(self):
        for one, other in itertools.product(house.rows(2, 2), repeat=2):
            self.assertEqual(turns_to((), one, other), () if one == other else None)
            self.assertIs(same_rest((), one, other), one == other)
            self.assertEqual(doors_between((), one, other), 0)


class DoorsTest(unittest.TestCase):
    def test_doors_between(self):
        for ways in NEAR[::3] + [FOUR]:
            doors = family.doors(ways, 5)
            for one in house.rows(3, 3):
                for other in house.rows(3, 3)[::3]:
                    many = sum(door in doors for door in doors_on_the_way(one, other))
                    self.assertEqual(doors_between(ways, one, other), many)

    def test_long_ways(self):
        self.assertEqual(doors_between(("a", "b"), "ab" * 100, "ba" * 100), 400)
        self.assertEqual(doors_between(("ab", "b"), "ab" * 100, ""), 100)
        for room in LONG:
            self.assertEqual(doors_between(tuple("abcdefgh"), room, ""), len(room))
            self.assertEqual(doors_between((room,), room, ""), 1)
            self.assertEqual(doors_between((room,), room[:-1], ""), 0)
            self.assertEqual(doors_between((room,), room, room), 0)
        for ways in TWELVE:
            made = makers(ways)
            for one, other in zip(LONG[:3], [made[0] + "h", LONG[0][:150] + LONG[1][150:], LONG[3]]):
                if not house.has_neighbours(other):
                    many = sum(is_of(made, door) for door in doors_on_the_way(one, other))
                    self.assertEqual(doors_between(ways, one, other), many)

    def test_steps_out(self):
        for ways in NEAR[::2]:
            doors = family.doors(ways, 5)
            for room in house.rows(3, 2):
                self.assertEqual(steps_out(ways, room), self.steps(doors, room), (ways, room))

    def steps(self, doors, room):
        """Goes from room to room, all around, until a door is one of the family."""
        if not doors:
            return None
        here, came, steps = [room], {room}, 0
        while True:
            steps += 1
            pairs = [(place, house.step(place, letter)) for place in here for letter in "abc"]
            if any(house.door_between(*pair) in doors for pair in pairs):
                return steps
            here = [there for _, there in pairs if there not in came]
            came.update(here)

    def test_steps_out_far(self):
        self.assertEqual(steps_out(("ab" * 100,), ""), 200)
        self.assertEqual(steps_out(("ab" * 100,), "ba" * 100), 400)
        self.assertEqual(steps_out(("ab" * 100,), "ab" * 100), 1)
        self.assertEqual(steps_out(("ab" * 100,), ("ab" * 100)[:199]), 1)
        self.assertEqual([steps_out((), room) for room in ("", "a", LONG[0])], [None] * 3)
        for ways in TWELVE:
            for room in LONG:
                made = makers(ways)
                rest = folded_by_words(made, room)[0]
                near = [len(house.rooms_on(rest, maker[:-1])) for maker in made]
                self.assertEqual(steps_out(ways, room), min(near))


class SharesTest(unittest.TestCase):
    def test_share(self):
        for many in range(2, 5):
            for way in house.ways(many, 5):
                like = [other for other in house.ways(many, 5) if len(other) == len(way)]
                self.assertEqual(share(way, many), (1, len(like)))
        for way in LONG:
            for many in range(4, 9):
                self.assertEqual(share(way, many), (1, many * (many - 1) ** (len(way) - 1)))
        self.assertEqual(share("ab" * 100, 2), (1, 2))
        self.assertEqual(share("h", 8), (1, 8))

    def test_shares(self):
        for ways in NEAR:
            for many in (3, 4, 8):
                total = sum([Fraction(*share(maker, many)) for maker in family.makers(ways)], Fraction(0))
                told = shares(ways, many)
                self.assertEqual(told, (total.numerator, total.denominator))
                self.assertIs(type(told), tuple)
                self.assertIs(is_whole(ways, many), told == (1, 1))
        for ways in TWELVE:
            total = sum(Fraction(*share(maker, 8)) for maker in makers(ways))
            self.assertEqual(shares(ways, 8), (total.numerator, total.denominator))
        self.assertEqual([shares((), many) for many in range(2, 9)], [(0, 1)] * 7)

    def test_whole_by_rooms(self):
        for ways in NEAR + [ways for _, ways in WHOLE]:
            made = family.makers(ways)
            longest = max(map(len, made), default=0)
            for many in (2, 3, 4):
                if set("".join(ways)) <= set(house.LETTERS[:many]):
                    # If a room with as many letters as the longest maker is left, all behind it are.
                    rows = house.rows(many, max(longest, 1))
                    left = left_by_words(made, rows)
                    whole = all(len(room) < longest for room in left)
                    self.assertIs(is_whole(ways, many), whole, (ways, many))
                    told = rooms_left(ways, many)
                    self.assertEqual(told, left if whole else None)
                    self.assertEqual(how_many_rooms(ways, many), len(left) if whole else None)
                    if whole:
                        self.assertIs(type(told), list)
                        self.assertEqual(len(made), (many - 2) * len(left) + 2)

    def test_whole_families(self):
        for many, ways in WHOLE:
            self.assertIs(is_whole(ways, many), True)
            self.assertIs(is_whole(ways, many + 1), False)
            made = makers(ways)
            for maker in made:
                fewer = [other for other in made if other != maker]
                self.assertIs(is_whole(fewer, many), False)
                self.assertIsNone(rooms_left(fewer, many))
        self.assertEqual(rooms_left(tuple(house.LETTERS), 8), [""])
        self.assertEqual([is_whole((), many) for many in range(2, 9)], [False] * 7)
        self.assertIsNone(rooms_left((), 2))
        self.assertIsNone(how_many_rooms((), 8))

    def test_many_rooms(self):
        long = ("ab" * 100, "ba" * 100)
        stems = [way[:length] for length in range(1, 200) for way in long]
        self.assertEqual(rooms_left(long, 2), [""] + stems)
        self.assertEqual(how_many_rooms(long, 2), 399)
        self.assertEqual(how_many_rooms(("ab" * 100, "b"), 2), 200)


class LeftTest(unittest.TestCase):
    def test_all_near_rooms(self):
        for ways in NEAR:
            made = family.makers(ways)
            for many in (2, 3):
                if set("".join(ways)) <= set(house.LETTERS[:many]):
                    left = left_by_words(made, house.rows(many, 6))
                    for length in range(7):
                        rooms = sorted(room for room in left if len(room) == length)
                        self.assertEqual(how_many_left(ways, many, length), len(rooms))
                        told = [left_at(ways, many, length, number) for number in range(len(rooms))]
                        self.assertEqual(told, rooms)
                        self.check_no_number(ways, many, length, len(rooms))

    def check_no_number(self, ways, many, length, total):
        for number in (total, total + 1, -1, -total - 1, 10 ** 400, -10 ** 40):
            with self.assertRaises(NoNumber) as told:
                left_at(ways, many, length, number)
            self.assertEqual(vars(told.exception), {"number": number})

    def test_great_lengths(self):
        for ways in TWELVE + [(), ("a",), ("abcdefgh",), FOUR]:
            made = makers(ways)
            for length in (0, 1, 60, 200):
                total = how_many_left(ways, 8, length)
                every = 8 * 7 ** (length - 1) if length else 1
                barred = sum(7 ** (length - len(maker)) for maker in made if len(maker) <= length)
                self.assertEqual(total, every - barred)
                numbers = {0, 1, 10 ** 40, total // 3, total // 2, total - 2, total - 1}
                numbers = sorted(number for number in numbers if 0 <= number < total)
                rooms = [left_at(ways, 8, length, number) for number in numbers]
                self.assertEqual(rooms, sorted(set(rooms)))
                for room, number in zip(rooms, numbers):
                    self.assertEqual(len(room), length)
                    self.assertFalse(house.has_neighbours(room))
                    self.assertIs(is_left(ways, room), True)
                    self.assertEqual(self.ahead(made, room), number)
                self.check_no_number(ways, 8, length, total)

    def ahead(self, made, room):
        """How many rooms of as many letters are left and stand ahead of this one."""
        number = 0
        for at, letter in enumerate(room):
            for other in house.LETTERS[:house.LETTERS.index(letter)]:
                stem = room[:at] + other
                if not room[:at].endswith(other) and left_by_words(made, [stem]):
                    number += 7 ** (len(room) - at - 1)
                    number -= sum(7 ** (len(room) - len(maker)) for maker in made
                                  if maker.startswith(stem) and len(maker) <= len(room))
        return number

    def test_edges(self):
        self.assertEqual([how_many_left((), 2, length) for length in (0, 1, 2, 200)], [1, 2, 2, 2])
        self.assertEqual([left_at((), 2, 200, number) for number in (0, 1)], ["ab" * 100, "ba" * 100])
        self.assertEqual(left_at((), 8, 0, 0), "")
        self.assertEqual(left_at(("a", "b"), 2, 0, 0), "")
        self.assertEqual(how_many_left(("a", "b"), 2, 1), 0)
        self.check_no_number((), 8, 0, 1)
        self.check_no_number(("a", "b"), 2, 1, 0)
        self.check_no_number(("a", "b"), 2, 200, 0)


if __name__ == "__main__":
    unittest.main()
