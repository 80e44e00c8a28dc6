import itertools
import unittest

from mirrordoors.errors import NoLetter
from mirrordoors.halls import (
    alike_in, all_sheets, hall_letters, how_many_show, is_hall, is_parting_hall, is_sheet,
    parting_hall, point_after, row_to, seen_sheet, sheet_of, sheet_shown, shortest_way)
from mirrordoors.looks import way_shown
from mirrordoors.rows import palindrome
from tests import house, points
from tests.calls import check_calls, check_lists, each_part_listed, listed

HALL = (4, (("a", ((0, 1), (2, 3))), ("b", ((1, 2),))))
GREAT = [points.mixed(seed, 400, "abcdefgh") for seed in (1, 2)] + [points.ring(400)]
LONG = [house.made_row(seed, 200, many) for seed in range(2) for many in (2, 3, 8)]
HUNDRED = [house.made_row(seed, 100, many) for seed in range(2) for many in (2, 3, 8)]


class ExamplesTest(unittest.TestCase):
    def test_points(self):
        self.assertEqual(
            (hall_letters(HALL), point_after(HALL, "ab", 0), point_after(HALL, "aab", 3),
             point_after(HALL, "", 3), row_to(HALL, 0, 3), row_to(HALL, 2, 2),
             row_to((3, (("c", ((0, 1),)),)), 0, 2)),
            ('ab', 2, 3, 3, 'aba', '', None))

    def test_ways(self):
        self.assertEqual(
            (sheet_of(HALL, "b"), sheet_of(HALL, "ab"), sheet_of(HALL, "ba"), sheet_of(HALL, "aba"),
             alike_in(HALL, "ba", "aba"), alike_in(HALL, "a", "ab")),
            (((1, 2),), ((0, 3),), ((0, 2), (1, 3)), ((0, 2), (1, 3)), True, False))

    def test_recipes(self):
        self.assertEqual(
            (seen_sheet(((0, 1),), ((1, 2),)), sheet_shown(HALL, "a"), sheet_shown(HALL, ("b", "a")),
             sheet_shown(HALL, ("a", ("b", "a")))),
            (((0, 2),), ((0, 1), (2, 3)), ((0, 3),), ((0, 2), (1, 3))))

    def test_all_that_is_shown(self):
        self.assertEqual(
            (all_sheets(HALL), [how_many_show(HALL, ((0, 3),), length) for length in (1, 2, 3, 4)],
             shortest_way(HALL, ((0, 3),)), shortest_way(HALL, ((0, 2), (1, 3))),
             shortest_way(HALL, ())),
            ((((0, 1), (2, 3)), ((0, 2), (1, 3)), ((0, 3),), ((1, 2),)), [0, 1, 1, 0], 'ab', 'ba', None))

    def test_parting(self):
        self.assertEqual(
            (parting_hall("ab", "ab"), is_parting_hall("ab", "ba", parting_hall("ab", "ba")),
             is_parting_hall("ab", "ba", HALL), is_parting_hall("ba", "aba", HALL),
             is_parting_hall("a", "c", HALL)),
            (None, True, True, False, False))

    def test_things(self):
        self.assertEqual(
            (is_sheet(4, ((0, 1), (2, 3))), is_sheet(3, ((0, 1), (2, 3))), is_sheet(4, ((1, 0),)),
             is_sheet(4, ((0, 1), (1, 2))), is_hall(HALL), is_hall((0, ())),
             is_hall((1, (("b", ()), ("a", ()))))),
            (True, False, False, False, True, False, False))

    def test_no_letter(self):
        with self.assertRaises(NoLetter) as told:
            sheet_of(HALL, "abc")
        self.assertEqual(vars(told.exception), {"letter": "c"})


class CallsTest(unittest.TestCase):
    CALLS = [
        (is_sheet, {"points": 4, "thing": ((0, 1),)}, True),
        (is_hall, {"thing": HALL}, True),
        (hall_letters, {"hall": HALL}, "ab"),
        (point_after, {"hall": HALL, "word": "ab", "point": 0}, 2),
        (row_to, {"hall": HALL, "point": 0, "to": 3}, "aba"),
        (seen_sheet, {"one": ((0, 1),), "other": ((1, 2),)}, ((0, 2),)),
        (sheet_of, {"hall": HALL, "way": "ab"}, ((0, 3),)),
        (sheet_shown, {"hall": HALL, "recipe": ("b", "a")}, ((0, 3),)),
        (alike_in, {"hall": HALL, "one": "ba", "other": "aba"}, True),
        (is_parting_hall, {"one": "ab", "other": "ba", "thing": HALL}, True),
        (parting_hall, {"one": "ab", "other": "ab"}, None),
        (how_many_show, {"hall": HALL, "sheet": ((0, 3),), "length": 2}, 1),
        (shortest_way, {"hall": HALL, "sheet": ((0, 3),)}, "ab"),
        (all_sheets, {"hall": (2, (("c", ((0, 1),)),))}, (((0, 1),),)),
    ]

    def test_by_names(self):
        check_calls(self, self.CALLS)
        self.assertEqual(parting_hall(one="ab", other="ba"), parting_hall("ab", "ba"))

    def test_lists_for_tuples(self):
        check_lists(self, self.CALLS)

    def test_tuples_come_back(self):
        for sheet in points.every_sheet(5):
            hall = [5, [["a", listed(sheet)], ["b", [[0, 1]]]]]
            for told in (sheet_of(hall, "a"), sheet_of(hall, "ba"), sheet_shown(hall, "a"),
                         sheet_shown(hall, ["a", "b"]), seen_sheet(listed(sheet), [[0, 1]])):
                self.assertIs(is_sheet(5, told), True)
            for told in all_sheets(hall):
                self.assertIs(is_sheet(5, told), True)


class SheetThingsTest(unittest.TestCase):
    NOT_ONE = [
        [], [(0, 1)], ([0, 1],), ((0, 1), [2, 3]), [[0, 1]], ((0,),), ((0, 1, 2),), ((),), (0, 1), (0,),
        ((1, 0),), ((1, 1),), ((0, 0),), ((0, 1), (0, 1)), ((0, 1), (1, 2)), ((0, 2), (1, 2)),
        ((0, 1), (0, 2)), ((2, 3), (0, 1)), ((0, 1), (3, 2)), ((-1, 0),), ((0, 4),), ((4, 5),),
        ((True, 2),), ((0, True),), ((False, True),), ((False, 1),), ((0, None),), (("0", "1"),),
        ((0, "1"),), ("01",), "01", ((0, (1,)),), (((0, 1),),), ((0, 1), ()), ((0, 1), None),
        ((0, 10 ** 40),), ((-10 ** 40, 1),), {}, None, True, False, 0, 1, "a", "",
    ]

    def test_all_near_things(self):
        for many in range(1, 5):
            known = points.every_sheet(many)
            pairs = list(itertools.product(range(-1, many + 1), repeat=2))
            tried = [told for count in range(3) for told in itertools.product(pairs, repeat=count)]
            for thing in tried:
                self.assertIs(is_sheet(many, thing), thing in known, (many, thing))
        for many in range(1, 7):
            for sheet in points.every_sheet(many):
                self.assertIs(is_sheet(many, sheet), True)
                self.assertIs(is_sheet(many + 1, sheet), True)
                highest = max([0] + [high for _, high in sheet])
                self.assertIs(is_sheet(max(highest, 1), sheet), sheet == ())
                for form in each_part_listed(sheet):
                    self.assertIs(is_sheet(many, form), False)

    def test_wrong_things(self):
        for thing in self.NOT_ONE + house.ODD:
            if thing != ():
                self.assertIs(is_sheet(4, thing), False, thing)
        for depth in range(1, 12):
            self.assertIs(is_sheet(4, house.nested((0, 1), depth, tuple)), depth == 1)
            self.assertIs(is_sheet(4, house.nested((), depth, tuple)), False)

    def test_many_points(self):
        self.assertIs(is_sheet(1, ()), True)
        self.assertIs(is_sheet(10 ** 40, ((0, 10 ** 40 - 1), (5, 10 ** 39))), True)
        self.assertIs(is_sheet(10 ** 40, ((0, 10 ** 40),)), False)
        self.assertIs(is_sheet(10 ** 60, ((10 ** 50, 10 ** 55),)), True)
        many = tuple((k, k + 1) for k in range(0, 20000, 2))
        self.assertIs(is_sheet(20000, many), True)
        self.assertIs(is_sheet(19999, many), False)
        self.assertIs(is_sheet(20000, many[1:] + many[:1]), False)
        self.assertIs(is_sheet(20001, many[:-1] + ((19997, 19998),)), False)


class HallThingsTest(unittest.TestCase):
    NOT_ONE = [
        [4, ()], (4, []), (4,), (4, (), ()), (0, ()), (-1, ()), (True, ()), ("4", ()), (None, ()),
        ((4,), ()), (4, None), (4, "a"), (4, "ab"), (4, ("a",)), (4, ("a", ())), (4, (("a",),)),
        (4, (("a", (), ()),)), (4, (["a", ()],)), (4, (("a", []),)), (4, (("a", ([0, 1],)),)),
        (4, (("", ()),)), (4, (("ab", ()),)), (4, (("i", ()),)), (4, (("A", ()),)), (4, ((0, ()),)),
        (4, ((None, ()),)), (4, ((("a",), ()),)), (4, ((["a"], ()),)), (4, ((True, ()),)),
        (4, (("a", ()), ("a", ()))), (4, (("a", ()), ("a", ((0, 1),)))), (4, (("b", ()), ("a", ()))),
        (4, (("a", ()), ("c", ()), ("b", ()))), (4, (("a", ((0, 4),)),)), (4, (("a", ((1, 0),)),)),
        (4, (("a", ((0, 1), (1, 2))),)), (4, (("a", ((2, 3), (0, 1))),)), (1, (("a", ((0, 1),)),)),
        (4, (("a", ((0, True),)),)), (4, (("a", None),)), (4, (("a", 0),)), (4, ((),)), (4, (None,)),
        ((), 4), {}, (4, {}), ((("a", ()),), 4), (4, ((), ())), (4, (((), "a"),)),
    ]

    def test_halls(self):
        for hall in points.SMALL + GREAT:
            self.assertIs(is_hall(hall), True)
            self.assertEqual(hall_letters(hall), "".join(points.letters_of(hall)))

    def test_wrong_things(self):
        for thing in self.NOT_ONE + house.ODD + SheetThingsTest.NOT_ONE:
            self.assertIs(is_hall(thing), False, thing)
            self.assertIs(is_parting_hall("a", "b", thing), False, thing)
        for depth in range(1, 11):
            self.assertIs(is_hall(house.nested(HALL, depth, tuple)), False)

    def test_near_halls(self):
        for hall in points.SMALL:
            for form in each_part_listed(hall):
                self.assertIs(is_hall(form), False)
            count, sheets = hall
            highest = max([0] + [high for _, sheet in sheets for _, high in sheet])
            self.assertIs(is_hall((max(1, highest), sheets)), highest == 0)
            self.assertIs(is_hall((count + 1, sheets)), True)
            self.assertIs(is_hall((count, sheets[::-1])), len(sheets) < 2)
            self.assertIs(is_hall((count, sheets + sheets)), sheets == ())
            self.assertIs(is_hall((count, sheets + (("i", ()),))), False)
            self.assertIs(is_hall((count, tuple((letter, (sheet,)) for letter, sheet in sheets))),
                          sheets == ())

    def test_all_near_things(self):
        known = points.every_sheet(2)
        tried = [(), ((0, 1),), ((1, 0),), [], ((0, 2),), None]
        letters = ["a", "b", "h", "i", "", "ab", None]
        singles = [(letter, sheet) for letter in letters for sheet in tried]
        for told in [(), *[(one,) for one in singles], *itertools.product(singles, repeat=2)]:
            right = all(letter in ("a", "b", "h") and sheet in known for letter, sheet in told)
            right = right and [one[0] for one in told] == sorted({one[0] for one in told if right})
            self.assertIs(is_hall((2, told)), right, told)

    def test_beyond_the_bounds(self):
        self.assertIs(is_hall((10 ** 60, (("a", ((0, 10 ** 60 - 1),)),))), True)
        self.assertIs(is_hall((10 ** 60, (("a", ((0, 10 ** 60),)),))), False)
        self.assertIs(is_hall((10 ** 60, tuple((letter, ()) for letter in "abcdefgh"))), True)
        self.assertIs(is_hall((10 ** 60, tuple((letter, ()) for letter in "abcdefghi"))), False)
        self.assertIs(is_hall(points.ring(10000)), True)


class PointsTest(unittest.TestCase):
    def test_point_after(self):
        for hall in points.SMALL:
            for row in points.rows_of(hall, 3) + ["aab", "bb", "ccba", "a" * 9]:
                if set(row) <= set(points.letters_of(hall)):
                    for point in range(hall[0]):
                        self.assertEqual(point_after(hall, row, point), points.led(hall, row, point))
        for hall in GREAT[:2]:
            for word in LONG + ["", "a" * 200, "aabb" * 50]:
                told = points.mirrors(hall)
                for point in (0, 17, 399):
                    to = point
                    for letter in word:
                        to = told[letter][to]
                    self.assertEqual(point_after(hall, word, point), to)

    def test_row_to(self):
        for hall in points.SMALL:
            found = {}
            for row in points.rows_of(hall, hall[0]):
                for point in range(hall[0]):
                    found.setdefault((point, points.led(hall, row, point)), row)
            for point in range(hall[0]):
                self.assertEqual(row_to(hall, point, point), "")
                for to in range(hall[0]):
                    self.assertEqual(row_to(hall, point, to), found.get((point, to)))

    def test_row_to_in_great_halls(self):
        ring = GREAT[2]
        self.assertEqual(row_to(ring, 0, 200), "ab" * 100)
        self.assertEqual(row_to(ring, 0, 199), ("ab" * 100)[:199])
        self.assertEqual(row_to(ring, 1, 201), "ab" * 100)
        self.assertEqual(row_to(ring, 0, 399), "b")
        row = house.made_row(3, 399, 8)
        line = points.line(row)
        self.assertEqual(row_to(line, 0, 399), row)
        self.assertEqual(row_to(line, 399, 0), row[::-1])
        for hall in GREAT[:2]:
            for to in range(0, 400, 37):
                told = row_to(hall, 5, to)
                if told is not None:
                    self.assertEqual(points.led(hall, told, 5), to)
        parts = (400, (("c", tuple((k, k + 200) for k in range(200))),))
        self.assertEqual([row_to(parts, 7, to) for to in (7, 207, 8, 208)], ["", "c", None, None])


class MirrorsTest(unittest.TestCase):
    def test_seen_sheet(self):
        for many in (1, 2, 3, 4, 5):
            known = points.every_sheet(many)
            for one, other in itertools.product(known, repeat=2):
                put = [house.exchanged(many, sheet) for sheet in (one, other)]
                told = seen_sheet(one, other)
                self.assertEqual(told, points.sheet(house.mirror_in_mirror(*put)))
                self.assertEqual(seen_sheet(told, other), one)
                self.assertEqual(seen_sheet(one, one), one)

    def test_seen_sheet_of_many_points(self):
        for hall in GREAT:
            sheets = dict(hall[1])
            for one, other in itertools.product(sheets, repeat=2):
                put = [house.exchanged(400, sheets[letter]) for letter in (one, other)]
                seen = points.sheet(house.mirror_in_mirror(*put))
                self.assertEqual(seen_sheet(sheets[one], sheets[other]), seen)
        self.assertEqual(seen_sheet(((10 ** 40, 10 ** 41),), ((3, 10 ** 41),)), ((3, 10 ** 40),))

    def test_sheet_of(self):
        for hall in points.SMALL:
            told = points.mirrors(hall)
            for way in points.rows_of(hall, 5)[1:]:
                sheet = sheet_of(hall, way)
                self.assertEqual(sheet, points.sheet(points.mirror_of(told, way)))
                # The mirror of a WAY leads each point to where its palindrome leads it.
                put = house.exchanged(hall[0], sheet)
                for point in range(hall[0]):
                    self.assertEqual(put[point], points.led(hall, palindrome(way), point))
        for hall in GREAT[:2]:
            for way in LONG:
                mirror = points.mirror_of(points.mirrors(hall), way)
                self.assertEqual(sheet_of(hall, way), points.sheet(mirror))

    def test_sheet_shown(self):
        for hall in points.SMALL:
            told = points.mirrors(hall)
            letters = points.letters_of(hall)
            for recipe in [one for count in range(1, 5) for one in house.recipes(8, count)
                           if count < 4 or one[0] == "a"]:
                if set(str(recipe)) & set(house.LETTERS) <= set(letters):
                    mirror = house.shown_in_hall(told, recipe)
                    self.assertEqual(sheet_shown(hall, recipe), points.sheet(mirror))
                    self.assertEqual(sheet_shown(hall, recipe), sheet_of(hall, way_shown(recipe)))
        deep = "a"
        for letter in "bcdefghabcd":
            deep = (letter, deep)
        for hall in GREAT[:2]:
            mirror = house.shown_in_hall(points.mirrors(hall), deep)
            self.assertEqual(sheet_shown(hall, deep), points.sheet(mirror))

    def test_alike_in(self):
        for hall in points.SMALL:
            told = points.mirrors(hall)
            for one, other in itertools.product(points.rows_of(hall, 3)[1:], repeat=2):
                same = points.mirror_of(told, one) == points.mirror_of(told, other)
                self.assertIs(alike_in(hall, one, other), same)
        told = points.mirrors(GREAT[0])
        for one, other in itertools.product(LONG, repeat=2):
            same = points.mirror_of(told, one) == points.mirror_of(told, other)
            self.assertIs(alike_in(GREAT[0], one, other), same)
        self.assertIs(alike_in(GREAT[2], "ab" * 100, "ab" * 100), True)


class NoLetterTest(unittest.TestCase):
    def check(self, letter, function, *values):
        with self.assertRaises(NoLetter) as told:
            function(*values)
        self.assertEqual(vars(told.exception), {"letter": letter})

    def test_the_first_one_decides(self):
        hall = (4, (("b", ((0, 1),)), ("e", ())))
        for word, letter in (("a", "a"), ("bca", "c"), ("beh", "h"), ("ebebda", "d"), ("ffb", "f")):
            self.check(letter, point_after, hall, word, 0)
            self.check(letter, point_after, (1, ()), letter + word, 0)
        for way, letter in (("a", "a"), ("bca", "c"), ("beh", "h"), ("ebebda", "d"), ("cb", "c")):
            self.check(letter, sheet_of, hall, way)
            self.check(letter, alike_in, hall, "be", way)
            self.check(letter, alike_in, hall, way, "be")
            self.check(letter, alike_in, hall, way, "hgh")
            self.check(letter, alike_in, [4, [["b", []], ["e", []]]], way, way)
        for recipe, letter in (("a", "a"), (("b", "c"), "c"), (("c", "a"), "c"), (("a", "c"), "a"),
                               ((("b", "d"), "a"), "d"), (("b", ("e", "h")), "h"),
                               ((("b", "e"), (("e", "g"), "f")), "g"), (["b", ["h", "a"]], "h")):
            self.check(letter, sheet_shown, hall, recipe)
        for letter in house.LETTERS:
            self.check(letter, sheet_of, (1, ()), letter)
            self.check(letter, sheet_shown, (400, ()), letter)

    def test_none_is_missed(self):
        hall = (2, (("c", ((0, 1),)),))
        self.assertEqual(point_after(hall, "", 1), 1)
        self.assertEqual(point_after((1, ()), "", 0), 0)
        self.assertEqual(point_after(hall, "ccc", 1), 0)


class PartingTest(unittest.TestCase):
    def check(self, one, other):
        hall = parting_hall(one, other)
        if one == other:
            self.assertIsNone(hall)
            return
        self.assertIs(is_hall(hall), True)
        self.assertLessEqual(hall[0], 400)
        self.assertLessEqual(set(one + other), set(points.letters_of(hall)))
        told = points.mirrors(hall)
        self.assertNotEqual(points.mirror_of(told, one), points.mirror_of(told, other))
        self.assertIs(is_parting_hall(one, other, hall), True)
        self.assertIs(is_parting_hall(other, one, hall), True)
        self.assertIs(is_parting_hall(one, one, hall), False)
        self.assertIs(alike_in(hall, one, other), False)
        self.assertEqual(hall, parting_hall(one=one, other=other))
        # Without a letter of either WAY it is none.
        for letter in set(one + other):
            less = (hall[0], tuple(one for one in hall[1] if one[0] != letter))
            self.assertIs(is_parting_hall(one, other, less), False)
        for form in (list(hall), (hall[0], list(hall[1])), listed(hall), (hall[0],), (True, hall[1])):
            self.assertIs(is_parting_hall(one, other, form), False)

    def test_all_near_ways(self):
        near = house.ways(3, 3) + ["h", "gh", "abab", "baba"]
        for one, other in itertools.product(near, repeat=2):
            self.check(one, other)

    def test_long_ways(self):
        near = ["a", "h", HUNDRED[0][1:], HUNDRED[1][:99], HUNDRED[1][:98] + "gh"]
        for one, other in itertools.product(HUNDRED + near, repeat=2):
            self.check(one, other)

    def test_all_halls(self):
        for hall in points.SMALL:
            told = points.mirrors(hall)
            for one, other in itertools.product(house.ways(3, 2), repeat=2):
                right = set(one + other) <= set(told)
                right = right and points.mirror_of(told, one) != points.mirror_of(told, other)
                self.assertIs(is_parting_hall(one, other, hall), right)

    def test_beyond_the_bounds(self):
        far = 10 ** 60
        hall = (far, (("a", ((0, far - 1),)), ("b", ((1, far - 1),))))
        self.assertIs(is_parting_hall("a", "b", hall), True)
        self.assertIs(is_parting_hall("ab", "ba", hall), False)
        self.assertIs(is_parting_hall("a", "c", hall), False)
        self.assertIs(is_parting_hall("a", "a", hall), False)
        self.assertIs(is_parting_hall("a", "b", (far - 1, hall[1])), False)
        line = points.line("ab" * 500)
        self.assertIs(is_parting_hall("ab", "ba", line), True)
        self.assertIs(is_parting_hall("ab" * 100, "ba" * 100, line), True)
        self.assertIs(is_parting_hall("ab", "ab", line), False)

    def test_wrong_things(self):
        for thing in house.ODD + [None, (), [], 4, "ab", (4, ())]:
            self.assertIs(is_parting_hall("ab", "ba", thing), False)
            self.assertIs(is_parting_hall("a", "a", thing), False)


class AllThatIsShownTest(unittest.TestCase):
    def test_all_ways(self):
        for hall in points.SMALL:
            shown = points.shown(hall, 9)
            self.assertEqual(all_sheets(hall), tuple(sorted(set(shown.values()))))
            for sheet in points.every_sheet(hall[0]):
                ways = [way for way in shown if shown[way] == sheet]
                self.assertEqual(shortest_way(hall, sheet), ways[0] if ways else None)
                lengths = [len(way) for way in ways]
                for length in range(1, 10):
                    self.assertEqual(how_many_show(hall, sheet, length), lengths.count(length))

    def test_many_letters(self):
        sheets = points.every_sheet(6)
        hall = (6, tuple((letter, sheets[5 + 9 * k]) for k, letter in enumerate(house.LETTERS)))
        shown = all_sheets(hall)
        self.assertEqual(shown, tuple(sorted(set(shown))))
        for sheet in sheets:
            way = shortest_way(hall, sheet)
            self.assertEqual(way is not None, sheet in shown)
            if way:
                self.assertEqual(sheet_of(hall, way), sheet)
                before = [how_many_show(hall, sheet, length) for length in range(1, len(way) + 1)]
                self.assertEqual([many > 0 for many in before], [False] * (len(way) - 1) + [True])
        for length, total in ((1, 8), (2, 56), (60, 8 * 7 ** 59)):
            self.assertEqual(sum(how_many_show(hall, sheet, length) for sheet in shown), total)

    def test_great_lengths(self):
        for hall in points.SMALL:
            letters = len(hall[1])
            for length in (1, 7, 59, 60):
                total = sum(how_many_show(hall, sheet, length) for sheet in all_sheets(hall))
                ways = letters * (letters - 1) ** (length - 1) if letters else 0
                self.assertEqual(total, ways)

    def test_shown_again(self):
        for hall in points.SMALL:
            shown = all_sheets(hall)
            self.assertEqual(shown, tuple(sorted(set(shown))))
            for one, other in itertools.product(shown, repeat=2):
                self.assertIn(seen_sheet(one, other), shown)

    def test_without_letters(self):
        for count in range(1, 7):
            for sheet in points.every_sheet(count):
                hall = (count, ())
                self.assertEqual(all_sheets(hall), ())
                self.assertEqual(how_many_show(hall, sheet, 1), 0)
                self.assertEqual(how_many_show(hall, sheet, 60), 0)
                self.assertIsNone(shortest_way(hall, sheet))

    def test_one_point(self):
        hall = (1, (("c", ()), ("d", ())))
        self.assertEqual(all_sheets(hall), ((),))
        self.assertEqual([how_many_show(hall, (), length) for length in (1, 2, 60)], [2, 2, 2])
        self.assertEqual(shortest_way(hall, ()), "c")
        self.assertEqual((row_to(hall, 0, 0), point_after(hall, "cd", 0)), ("", 0))


if __name__ == "__main__":
    unittest.main()
