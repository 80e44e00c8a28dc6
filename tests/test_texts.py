import itertools
import re
import unittest

from mirrordoors.errors import BadText
from mirrordoors.halls import is_hall
from mirrordoors.looks import is_recipe
from mirrordoors.small import is_small
from mirrordoors.texts import (
    hall_read, hall_text, recipe_read, recipe_text, small_read, small_text, ways_read, ways_text)
from tests import family, house, points
from tests.calls import check_calls, check_lists, check_sets
from tests.test_small import GREAT as HOUSES
from tests.test_small import all_houses, is_one_of_houses

FAR = 10 ** 40
HALL = (4, (("a", ((0, 1), (2, 3))), ("b", ())))
NUMBER = "(0|[1-9][0-9]*)"
SIGNS = ["", " ", "  ", ",", ", ", "-", ";", "; ", "0", "1", "2", "9", "a", "b", "c", "h", "i", "A", "(", ")",
         "in", " in ", "+", "\n", "\t", "."]


def near(text, signs=SIGNS):
    """Texts near to this one: a sign left out, put in, exchanged, two exchanged, twice."""
    found = {text + text, text + "\n", "\n" + text, text.upper(), text[::-1], " " + text, text + " "}
    for k in range(len(text) + 1):
        for sign in signs:
            found.add(text[:k] + sign + text[k:])
            found.add(text[:k] + sign + text[k + 1:])
        found.add(text[:k] + text[k + 1:k + 2] + text[k:k + 1] + text[k + 2:])
        found.add(text[:k])
    return sorted(found)


# A second look at what a text is: the value, or None if it is the text of nothing.

def ways_told(text):
    if text == "-":
        return ()
    if not re.fullmatch("[a-h]+(, [a-h]+)*", text):
        return None
    ways = re.findall("[a-h]+", text)
    ascending = all(one < other for one, other in zip(ways, ways[1:]))
    return tuple(ways) if ascending and not any(map(house.has_neighbours, ways)) else None


def recipe_told(text):
    if len(text) == 1:
        return text if text in house.LETTERS else None
    if text[:1] != "(" or text[-1:] != ")":
        return None
    for at in [found.start() for found in re.finditer("(?= in )", text)]:
        one, other = recipe_told(text[1:at]), recipe_told(text[at + 4:-1])
        if one is not None and other is not None:
            return (one, other)
    return None


def hall_told(text):
    if not re.fullmatch(f"{NUMBER}(; [a-h]( {NUMBER}-{NUMBER})*)*", text):
        return None
    count, *mirrors = text.split(";")
    told = (int(count), tuple(
        (mirror[1], tuple((int(low), int(high)) for low, high in re.findall("([0-9]+)-([0-9]+)", mirror)))
        for mirror in mirrors))
    if told[0] < 1 or [one[0] for one in told[1]] != sorted({one[0] for one in told[1]}):
        return None
    for _, sheet in told[1]:
        ends = [point for pair in sheet for point in pair]
        if len(set(ends)) < len(ends) or max(ends, default=0) >= told[0]:
            return None
        if not all(low < high for low, high in sheet) or list(sheet) != sorted(sheet):
            return None
    return told


def small_told(text):
    if not re.fullmatch(f"{NUMBER}( {NUMBER})*(; {NUMBER}( {NUMBER})*)*", text):
        return None
    told = tuple(tuple(map(int, room.split())) for room in text.split(";"))
    return told if is_one_of_houses(told) else None


class CallsTest(unittest.TestCase):
    CALLS = [
        (ways_text, {"ways": ("ab", "b")}, "ab, b"),
        (recipe_text, {"recipe": (("a", "b"), "c")}, "((a in b) in c)"),
        (hall_text, {"hall": HALL}, "4; a 0-1 2-3; b"),
        (small_text, {"small": ((1, 0), (0, 1))}, "1 0; 0 1"),
        (ways_read, {"text": "ab, b"}, ("ab", "b")),
        (recipe_read, {"text": "((a in b) in c)"}, (("a", "b"), "c")),
        (hall_read, {"text": "4; a 0-1 2-3; b"}, HALL),
        (small_read, {"text": "1 0; 0 1"}, ((1, 0), (0, 1))),
    ]

    def test_by_names(self):
        check_calls(self, self.CALLS)

    def test_lists_and_sets(self):
        check_lists(self, self.CALLS)
        check_sets(self, self.CALLS, ("ways",))


class TextTest(unittest.TestCase):
    def check(self, write, read, thing, text):
        self.assertEqual(write(thing), text)
        told = read(text)
        self.assertEqual(told, thing)
        self.assertEqual(repr(told), repr(thing))

    def check_near(self, read, told, text, signs=SIGNS):
        """That just the texts of something are read, and as what they are."""
        for other in near(text, signs):
            thing = told(other)
            if thing is None:
                with self.assertRaises(BadText) as raised:
                    read(other)
                self.assertEqual(vars(raised.exception), {}, other)
            else:
                self.assertEqual(read(other), thing, other)

    def check_bad(self, read, texts):
        for text in texts:
            with self.assertRaises(BadText, msg=repr(text)) as raised:
                read(text)
            self.assertEqual(vars(raised.exception), {})


class WaysTest(TextTest):
    def test_all_near_sets(self):
        for ways in family.some_sets(2, 3, 3, 1) + family.some_sets(3, 2, 3, 1) + family.some_sets(4, 3, 2, 7):
            text = ""
            for way in sorted(ways):
                text += (", " if text else "") + way
            self.check(ways_text, ways_read, tuple(sorted(ways)), text or "-")

    def test_near_texts(self):
        for text in ("-", "a", "ab, b", "a, ba, bc", "ab, abc, h", "h"):
            self.check_near(ways_read, ways_told, text)

    def test_great_sets(self):
        ways = tuple(sorted(house.made_row(k, 200 - k, 8) for k in range(12)))
        self.check(ways_text, ways_read, ways, ", ".join(ways))
        many = tuple(sorted(house.ways(4, 6)))
        self.check(ways_text, ways_read, many, ", ".join(many))
        self.check(ways_text, ways_read, ("ab" * 12000,), "ab" * 12000)

    def test_bad_texts(self):
        self.check_bad(ways_read, [
            "", " ", "--", "- ", "-, a", "a, -", "a,b", "a , b", "a,  b", "a, b,", "a, b, ", ", a", "b, a",
            "a, a", "ab, a", "aa", "abb, b", "i", "A", "a b", "a; b", "1", "\n", "a\n", "a\n, b", "a,\nb",
            "('a',)", "a, b, a", "None", "a,\u00a0b", "\u00e4",
        ])


class RecipeTest(TextTest):
    def told(self, recipe):
        if isinstance(recipe, str):
            return recipe
        return f"({self.told(recipe[0])} in {self.told(recipe[1])})"

    def test_all_near_recipes(self):
        for letters in range(1, 5):
            for recipe in house.recipes(3 if letters < 4 else 2, letters):
                self.check(recipe_text, recipe_read, recipe, self.told(recipe))

    def test_near_texts(self):
        for text in ("a", "(a in b)", "((a in b) in c)", "(h in (g in f))", "((a in b) in (a in b))"):
            self.check_near(recipe_read, recipe_told, text)

    def test_open_brackets(self):
        for side in (0, 1):
            recipe = "h"
            for k in range(20):
                recipe = (recipe, "abc"[k % 3]) if side else ("abc"[k % 3], recipe)
            self.check(recipe_text, recipe_read, recipe, self.told(recipe))
            for other in (self.told(recipe)[1:], self.told(recipe)[:-1], "(" + self.told(recipe)):
                self.check_bad(recipe_read, [other])
        # As many brackets as there is room for are open at once, and none is closed.
        self.check_bad(recipe_read, ["(" * 20, ")" * 20, "(" * 24000, ")" * 24000, "(a in " * 4000,
                                     " in b)" * 4000])

    def test_long_recipes(self):
        recipe = "a"
        for letters in "bcdefghabcd":
            recipe = ((recipe, letters), (letters, recipe)) if len(repr(recipe)) < 5000 else recipe
        self.check(recipe_text, recipe_read, recipe, self.told(recipe))
        self.assertIs(is_recipe(recipe_read(self.told(recipe))), True)

    def test_bad_texts(self):
        self.check_bad(recipe_read, [
            "", " ", "(", ")", "()", "( in )", " in ", "in", "a in b", "(a)", "(a in b", "a in b)", "(a in  b)",
            "(a  in b)", "(a in b )", "( a in b)", "(a  b)", "(ain b)", "(a inb)", "(a in b in c)", "((a in b)",
            "(a in b))", "(a in b)(a in b)", "(aa in b)", "(a in bb)", "(i in b)", "(a in i)", "(A in b)",
            "(a IN b)", "(a+b)", "a+b", "+", "(a in+b)", "ab", "i", "1", "(a in b)\n", "\na", "(a in\nb)",
            "(a\nin b)", "(a in b) ", " (a in b)", "((a) in b)", "(a in in b)", "(a in  in b)", "((a in b) in )",
            "( in b)", "(a in )", "(a, b)", "-", "[a in b]", "(a in (b in c)",
            "(a,b)", "(a b)", "(a-b)", "(acb)", "(a(b)", "(a)b)", "(aib)", "((a in b)c(a in b))", "(a;b)",
        ])


class HallTest(TextTest):
    def told(self, hall):
        text = f"{hall[0]}"
        for letter, sheet in hall[1]:
            text += f"; {letter}"
            for low, high in sheet:
                text += f" {low}-{high}"
        return text

    def test_all_near_halls(self):
        halls = [(count, tuple(zip(letters, sheets)))
                 for count in range(1, 5) for letters in ("", "a", "c", "ab", "bh")
                 for sheets in itertools.product(points.every_sheet(count), repeat=len(letters))]
        for hall in halls + points.SMALL:
            self.assertIs(is_hall(hall), True)
            self.check(hall_text, hall_read, hall, self.told(hall))

    def test_near_texts(self):
        for text in ("1", "4; a 0-1 2-3; b", "12; b; c 0-11 1-10", "3; a; b; c 1-2", "100; h 9-10 98-99"):
            self.check_near(hall_read, hall_told, text)

    def test_great_halls(self):
        for hall in (points.mixed(3, 400, "abcdefgh"), points.ring(400), (FAR - 1, (("a", ((0, FAR - 2),)),)),
                     (FAR - 1, ()), (20000, (("c", tuple((k, k + 1) for k in range(0, 4000, 2))),))):
            self.check(hall_text, hall_read, hall, self.told(hall))
        self.check_bad(hall_read, [f"{FAR - 2}; a 0-{FAR - 2}", f"{FAR - 1}; a {FAR - 2}-0"])

    def test_bad_texts(self):
        self.check_bad(hall_read, [
            "", "0", "-1", "+1", "01", "00", "1.", "1 ", " 1", "1\n", "1;", "1; ", "; a", "a", "a 0-1", "4 a",
            "4;a", "4;  a", "4; a;", "4; a; ", "4; a  0-1", "4; a 0-1 ", "4; a 0 1", "4; a 0-", "4; a -1",
            "4; a 0-1-2", "4; a 0--1", "4; a 00-1", "4; a 0-01", "4; a 1-0", "4; a 1-1", "4; a 0-4",
            "4; a 0-1 1-2", "4; a 0-1 0-2", "4; a 2-3 0-1", "4; a 0-1 0-1", "4; b; a", "4; a; a",
            "4; a 0-1; a 2-3", "4; i", "4; ab", "4; A", "4; a0-1", "4; a b", "4; 0-1", "4; a 0-b", "4; a x-y",
            "4; a +0-1", "4; a 0-+1", "4; a 0-1_0", "1_0", "4; a 0-\u0661", "\u0664; a", "\u00b2", "4; a 0- 1",
            "4; a\n", "4;\na", "4, a", "4; a, b", "4; a 0 -1", "4; a (0, 1)", "0; a", "-",
        ])


class SmallTest(TextTest):
    def told(self, small):
        text = ""
        for place, room in enumerate(small):
            text += "; " if place else ""
            for letter, there in enumerate(room):
                text += (" " if letter else "") + f"{there}"
        return text

    def test_all_near_houses(self):
        for rooms, letters in ((1, 2), (2, 2), (3, 2), (4, 2), (1, 3), (2, 3), (3, 3), (2, 4), (1, 8)):
            for small in all_houses(rooms, letters):
                self.check(small_text, small_read, small, self.told(small))

    def test_near_texts(self):
        signs = ["", " ", ";", "; ", "0", "1", "2", "-", "a", "\n", " 0", "0 "]
        for text in ("0 0", "1 0; 0 1", "0 1 0; 1 0 1", "2 0; 1 2; 0 1", "0 0 0 0 0 0 0 0"):
            self.check_near(small_read, small_told, text, signs)

    def test_great_houses(self):
        for small in HOUSES:
            self.check(small_text, small_read, small, self.told(small))
            self.assertIs(is_small(small_read(self.told(small))), True)

    def test_bad_texts(self):
        self.check_bad(small_read, [
            "", " ", "0", "-", "0 0 0 0 0 0 0 0 0", "0 1", "1 0", "1 0; 1 0", "0 0; 1 1", "0 0; 0 0", "00 0",
            "0 00", "01 0; 0 1", "1 0; 0 01", "0  0", " 0 0", "0 0 ", "0 0;", "0 0; ", "; 0 0", "1 0;0 1",
            "1 0;  0 1", "1 0, 0 1", "1 0 ; 0 1", "1 0; 0 1;", "1 0; 0 1\n", "1 0\n0 1", "1 0; 0", "0; 0",
            "1 0; 0 1 1", "-1 0", "+0 0", "0 -0", "a b", "0 a", "1 2; 2 0; 0 1", "0 0; 1 2; 2 1",
            "1 1; 0 0; 2 2", "\u0660 \u0660", "0\t0", "0 0\r", "((0, 0),)", f"{FAR - 1} 0", "0 1; 0 1",
        ])


class SignsTest(unittest.TestCase):
    def test_no_text_is_of_two_kinds_of_signs(self):
        """Each sign by itself: only what is the text of something is read."""
        for sign in map(chr, list(range(32, 127)) + [0, 9, 10, 13, 127, 160, 178, 1633, 65313]):
            for read, told in ((ways_read, ways_told), (recipe_read, recipe_told), (hall_read, hall_told),
                               (small_read, small_told)):
                for text in (sign, sign + " " + sign, sign * 3):
                    if told(text) is None:
                        with self.assertRaises(BadText):
                            read(text)
                    else:
                        self.assertEqual(read(text), told(text))


if __name__ == "__main__":
    unittest.main()
