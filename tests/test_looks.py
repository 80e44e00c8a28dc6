import copy
import itertools
import unittest

from mirrordoors.looks import (
    alike, fewest_turns, is_recipe, is_recipe_of, is_turns_for, letters_to, recipe_of, room_after,
    same_motion, seen_along, seen_in, turns_for, way_shown)
from mirrordoors.rows import is_way, joined, palindrome, turned
from tests import house
from tests.calls import check_calls

LONG = [house.made_row(seed, 200, many) for seed in range(3) for many in (2, 3, 8)]
TWELVE = tuple(house.made_row(seed, 200, 3) for seed in range(12))
RECIPES = [recipe for letters in range(1, 5) for recipe in house.recipes(2, letters)]
RECIPES += house.recipes(3, 3)


def listed(thing):
    """The same with a list for each tuple."""
    return [listed(part) for part in thing] if isinstance(thing, tuple) else thing


def folded_up(letters, left):
    """A RECIPE of these letters, in their order, nested as deep as can be."""
    recipe = letters[0]
    for letter in letters[1:]:
        recipe = (recipe, letter) if left else (letter, recipe)
    return recipe


def full(letters, depth):
    """A RECIPE with brackets in brackets: of two to the power of depth letters."""
    recipes = [letters[k % len(letters)] for k in range(2 ** depth)]
    while len(recipes) > 1:
        recipes = list(zip(recipes[::2], recipes[1::2]))
    return recipes[0]


class ExamplesTest(unittest.TestCase):
    def test_seen(self):
        self.assertEqual(
            (seen_in("a", "b"), seen_in("ab", "a"), seen_in("a", "ab"), seen_in("ab", "ab"),
             seen_in("c", "ab"), seen_along("a", ("b", "c")), seen_along("a", ())),
            ('ba', 'b', 'aba', 'ab', 'abac', 'cba', 'a'))

    def test_shown(self):
        self.assertEqual(
            (way_shown("a"), way_shown(("a", "b")), way_shown((("a", "b"), "c")),
             way_shown(("a", ("b", "c")))),
            ('a', 'ba', 'cba', 'cbca'))

    def test_alike(self):
        self.assertEqual(
            (alike((("a", "b"), "b"), "a"), alike(("a", "b"), ("b", "a")), alike(("a", "a"), "a"),
             alike((("a", "b"), "c"), (("a", "c"), ("b", "c")))),
            (True, False, True, True))

    def test_is_recipe(self):
        self.assertEqual(
            (is_recipe("a"), is_recipe(("a", "b")), is_recipe("ab"), is_recipe(("a",)),
             is_recipe(["a", "b"])),
            (True, True, False, False, False))

    def test_recipes_of_doors(self):
        self.assertEqual(
            (is_recipe_of("cba", (("a", "b"), "c")), is_recipe_of("cba", recipe_of("cba")),
             is_recipe_of("cba", ("a", "b")), is_recipe_of("cba", None)),
            (True, True, False, False))

    def test_letters_to(self):
        self.assertEqual(
            (letters_to("a", "cba"), letters_to("cba", "a"), letters_to("ab", "b"),
             letters_to("ab", "cb"), letters_to("a", "a"), letters_to("a", "b")),
            ('bc', 'cb', 'a', 'ac', '', None))

    def test_motions(self):
        self.assertEqual(
            (room_after("", ("a", "b")), room_after("c", ("ab",)), room_after("ab", ()),
             same_motion(("a", "b"), ("b", "ba")), same_motion(("a", "a"), ()),
             same_motion(("a", "b"), ("b", "a"))),
            ('ba', 'abac', 'ab', True, True, False))

    def test_turns(self):
        self.assertEqual(
            (fewest_turns("abab"), fewest_turns("abcba"), fewest_turns("abcabc"), fewest_turns(""),
             is_turns_for("abab", ("b", "ab")), is_turns_for("abab", ("ab", "b")),
             is_turns_for("abab", ("b", "a", "b", "a")),
             is_turns_for("abab", turns_for("abab"))),
            (2, 1, 4, 0, True, False, False, True))


class CallsTest(unittest.TestCase):
    CALLS = [
        (seen_in, {"one": "a", "other": "b"}, "ba"),
        (seen_along, {"way": "a", "ways": ("b", "c")}, "cba"),
        (is_recipe, {"thing": ("a", "b")}, True),
        (way_shown, {"recipe": ("a", "b")}, "ba"),
        (is_recipe_of, {"way": "ba", "thing": ("a", "b")}, True),
        (alike, {"one": ("a", "a"), "other": "a"}, True),
        (letters_to, {"one": "ab", "other": "b"}, "a"),
        (room_after, {"room": "c", "ways": ("ab",)}, "abac"),
        (same_motion, {"one": ("a", "b"), "other": ("b", "ba")}, True),
        (fewest_turns, {"row": "abab"}, 2),
        (turns_for, {"row": "aba"}, ("ab",)),
        (is_turns_for, {"row": "abab", "thing": ("b", "ab")}, True),
    ]

    def test_by_names(self):
        check_calls(self, self.CALLS)
        self.assertEqual(recipe_of(way="abc"), recipe_of("abc"))
        self.assertEqual(recipe_of("a"), "a")

    def test_lists_for_tuples(self):
        ways = ["ab", "c", "ab", "hgh"]
        kept = list(ways)
        self.assertEqual(seen_along("a", ways), seen_along("a", tuple(ways)))
        self.assertEqual(room_after("a", ways), room_after("a", tuple(ways)))
        self.assertIs(same_motion(ways, tuple(ways)), True)
        self.assertIs(same_motion(tuple(ways), ways), True)
        self.assertIs(same_motion(ways, ["a"]), False)
        self.assertIs(same_motion([], ()), True)
        self.assertEqual((seen_along("a", []), room_after("a", [])), ("a", "a"))
        self.assertEqual(ways, kept)

    def test_lists_in_recipes(self):
        for recipe in RECIPES:
            forms = [listed(recipe)]
            if isinstance(recipe, tuple):
                forms += [[*recipe], (listed(recipe[0]), recipe[1]), [recipe[0], listed(recipe[1])]]
            for form in forms:
                kept = copy.deepcopy(form)
                self.assertEqual(way_shown(form), way_shown(recipe))
                self.assertIs(alike(form, recipe), True)
                self.assertIs(alike(recipe, form), True)
                self.assertIs(alike(form, (recipe, "h")), False)
                self.assertEqual(form, kept)

    def test_equal_results_again(self):
        for row in house.rows(3, 4) + [house.made_row(1, 60, 3)]:
            self.assertEqual(turns_for(row), turns_for(row=row))
            if row and len(row) <= 12:
                self.assertEqual(recipe_of(row), recipe_of(way=row))


class SeenTest(unittest.TestCase):
    def test_all_near_doors(self):
        for one in house.ways(3, 4):
            for other in house.ways(3, 3):
                told = seen_in(one, other)
                self.assertEqual(told, house.seen_by_walking(one, other))
                self.assertEqual(told[-1], one[-1])
                self.assertEqual(seen_in(told, other), one)
                rooms = [turned(other, one[:-1]), turned(other, one)]
                self.assertEqual(told, sorted(rooms, key=len)[1])
                row = house.walk("", palindrome(other) + palindrome(one) + palindrome(other))
                self.assertEqual(palindrome(told), row)

    def test_edges(self):
        for way in house.ways(3, 4) + LONG:
            self.assertEqual(seen_in(way, way), way)
            for letter in "abch":
                beside = way[1:] if way[0] == letter and way[1:] else letter + way
                beside = letter if way == letter else beside
                self.assertEqual(seen_in(way, letter), beside)

    def test_long(self):
        for one in LONG:
            for other in LONG + [one[:100], one[:199], "a", "h"]:
                self.assertEqual(seen_in(one, other), house.seen_by_walking(one, other))

    def test_seen_in_the_third(self):
        near = house.ways(3, 2) + ["aba", "bcb", "cac"]
        for one, other, third in itertools.product(near, repeat=3):
            self.assertEqual(seen_in(seen_in(one, other), third),
                             seen_in(seen_in(one, third), seen_in(other, third)))

    def test_along(self):
        for way in house.ways(3, 2) + LONG[:2]:
            here = way
            for many in range(13):
                self.assertEqual(seen_along(way, TWELVE[:many]), here)
                here = house.seen_by_walking(here, TWELVE[many % 12])
            for pair in itertools.product(house.ways(3, 2), repeat=2):
                there = house.seen_by_walking(house.seen_by_walking(way, pair[0]), pair[1])
                self.assertEqual(seen_along(way, pair), there)
        self.assertEqual(seen_along("a", ("b", "b")), "a")


class RecipesTest(unittest.TestCase):
    def test_recipes(self):
        for recipe in RECIPES + list(house.LETTERS):
            self.assertIs(is_recipe(recipe), True)

    def test_no_recipes(self):
        for thing in house.ODD + ["", "ab", "aa", "aba", "ha"]:
            self.assertIs(is_recipe(thing), False, thing)
            self.assertIs(is_recipe_of("a", thing), False, thing)
            for pair in (("a", thing), (thing, "a"), (thing, thing), ("a", ("b", thing))):
                self.assertIs(is_recipe(pair), False, pair)
                self.assertIs(is_recipe_of("a", pair), False, pair)

    def test_near_recipes(self):
        for recipe in RECIPES:
            way = house.told_by_walking(recipe)
            for thing in ((recipe,), (recipe, recipe, recipe), [recipe, recipe], (recipe, []),
                          (recipe, ()), (recipe, None), (recipe, True), (recipe, 1), (recipe, "i"),
                          (recipe, ""), (recipe, "ab"), (recipe, "A"), ((recipe,), recipe)):
                self.assertIs(is_recipe(thing), False)
                self.assertIs(is_recipe_of(way, thing), False)
            if isinstance(recipe, tuple):
                for thing in (listed(recipe), [*recipe], (recipe, listed(recipe))):
                    self.assertIs(is_recipe(thing), False)
                    self.assertIs(is_recipe_of(way, thing), False)

    def test_deep(self):
        for left in (True, False):
            deep = folded_up("abcabcabcabca", left)
            self.assertIs(is_recipe(deep), True)
            self.assertEqual(way_shown(deep), house.told_by_walking(deep))
            for wrong in ("i", "", "ab", None, True, 0, ["a", "b"], ("a",)):
                self.assertIs(is_recipe(folded_up([wrong] + list("abcabcabcabc"), left)), False)

    def test_many_letters(self):
        great = full("abcab", 12)
        way = house.told_by_walking(great)
        self.assertIs(is_recipe(great), True)
        self.assertIs(is_recipe_of(way, great), True)
        self.assertIs(is_recipe_of(way[1:], great), False)
        self.assertIs(is_recipe_of("a", full("a", 12)), True)
        self.assertIs(is_recipe_of("b", full("a", 12)), False)
        self.assertIs(is_recipe(full(["a"] * 4095 + ["i"], 12)), False)
        self.assertIs(is_recipe(full(["a"] * 4095 + [None], 12)), False)

    def test_way_shown(self):
        for recipe in RECIPES + [recipe_of(row[:12]) for row in LONG]:
            way = way_shown(recipe)
            self.assertEqual(way, house.told_by_walking(recipe))
            self.assertIs(is_recipe_of(way, recipe), True)
            self.assertIs(is_recipe_of("h" + way.replace("h", "g"), recipe), False)
            if isinstance(recipe, tuple):
                doors = [house.told_by_walking(part) for part in recipe]
                self.assertEqual(way, house.seen_by_walking(*doors))

    def test_way_shown_by_twelve_letters(self):
        for letters in ("abcdefghabcd", "abababababab", "aabbccddeeff", "hhhhhhhhhhhh"):
            for recipe in (folded_up(letters, True), folded_up(letters, False),
                           (full(letters, 3), full(letters[4:], 2))):
                self.assertEqual(way_shown(recipe), house.told_by_walking(recipe))

    def test_recipe_of(self):
        for way in house.ways(3, 5) + [row[:end] for row in LONG for end in range(1, 13)]:
            recipe = recipe_of(way)
            self.assertEqual(house.told_by_walking(recipe), way)
            self.assertIs(is_recipe(recipe), True)
            self.assertIs(is_recipe_of(way, recipe), True)
            self.assertEqual(way_shown(recipe), way)
            self.assertIs(is_recipe_of(way + ("b" if way.endswith("a") else "a"), recipe), False)

    def test_is_recipe_of_tells_all(self):
        for way in house.ways(2, 3):
            for recipe in RECIPES:
                told = house.told_by_walking(recipe) == way
                self.assertIs(is_recipe_of(way, recipe), told)


class AlikeTest(unittest.TestCase):
    def test_by_doors(self):
        for one in RECIPES:
            for other in RECIPES[::3]:
                same = house.told_by_walking(one) == house.told_by_walking(other)
                self.assertIs(alike(one, other), same)

    def test_in_halls(self):
        halls = [house.mixed_hall(seed, points) for seed in range(6) for points in (3, 5, 8)]
        chosen = RECIPES[:14] + RECIPES[14::5]
        for one, other in itertools.combinations(chosen, 2):
            rows = [house.told_by_walking(recipe) for recipe in (one, other)]
            parting = house.row_hall(joined(palindrome(rows[0]), palindrome(rows[1])))
            shown = [house.shown_in_hall(hall, one) == house.shown_in_hall(hall, other)
                     for hall in halls + [parting]]
            self.assertIs(alike(one, other), all(shown))

    def test_edges(self):
        for letter in house.LETTERS:
            self.assertIs(alike(letter, letter), True)
            self.assertIs(alike(letter, (letter, letter)), True)
            self.assertIs(alike(letter, "a"), letter == "a")
        deep = folded_up("abcdefghabcd", True)
        self.assertIs(alike(deep, folded_up("abcdefghabcd", True)), True)
        self.assertIs(alike(deep, folded_up("abcdefghabdc", True)), False)
        self.assertIs(alike(deep, folded_up("abcdefghabcd", False)), False)


class LettersToTest(unittest.TestCase):
    def test_tries_all_rows(self):
        tried = house.rows(3, 6)
        for one in house.ways(3, 3):
            seen = {}
            for row in tried:
                there = one
                for letter in row:
                    there = house.seen_by_walking(there, letter)
                seen.setdefault(there, []).append(row)
            for other in house.ways(3, 3):
                if one[-1] != other[-1]:
                    self.assertNotIn(other, seen)
                    self.assertIsNone(letters_to(one, other))
                    continue
                shortest = min(map(len, seen[other]))
                self.assertEqual([row for row in seen[other] if len(row) == shortest],
                                 [letters_to(one, other)])

    def test_long(self):
        for one in LONG + ["a", "h"]:
            near = [one[100:], house.walk(one[:50], one[150:]), house.walk("hgh", one)]
            for other in LONG + ["a", "h"] + [way for way in near if way]:
                row = letters_to(one, other)
                if one[-1] != other[-1]:
                    self.assertIsNone(row)
                    continue
                self.assertFalse(house.has_neighbours(row))
                self.assertEqual(seen_along(one, tuple(row)), other)
                self.assertEqual(letters_to(other, one), row[::-1])
                # Just one other motion leads to this door: the one that also changes its rooms.
                longer = house.walk("", palindrome(one) + row)
                self.assertEqual(seen_along(one, tuple(longer)), other)
                self.assertLess(len(row), len(longer))

    def test_edges(self):
        for one in LONG + house.ways(3, 3):
            self.assertEqual(letters_to(one, one), "")
            self.assertEqual(letters_to(one[-1], one), one[:-1][::-1])
            self.assertEqual(letters_to(one, one[-1]), one[:-1])
            self.assertIsNone(letters_to(one, "g" if one[-1] == "h" else "h"))


class MotionsTest(unittest.TestCase):
    def test_room_after(self):
        for turns in itertools.product(house.ways(3, 2), repeat=2):
            for room in house.rows(3, 2):
                self.assertEqual(room_after(room, turns), house.led_by_walking(room, turns))
        for many in range(13):
            for room in ("", "a", "cb", LONG[0]):
                there = house.led_by_walking(room, TWELVE[:many])
                self.assertEqual(room_after(room, TWELVE[:many]), there)
        for room in house.rows(3, 3):
            self.assertEqual(room_after(room, ()), room)

    def test_told_by_where_the_beginning_goes(self):
        for turns in itertools.product(house.ways(2, 3), repeat=2):
            there = room_after("", turns)
            for room in house.rows(3, 3):
                self.assertEqual(room_after(room, turns), joined(there, room))

    def test_same_motion(self):
        near = [turns for many in range(3) for turns in itertools.product(house.ways(2, 3), repeat=many)]
        rooms = house.rows(3, 1)
        led = {turns: [house.led_by_walking(room, turns) for room in rooms] for turns in near}
        for one in near:
            for other in near:
                self.assertIs(same_motion(one, other), led[one] == led[other])

    def test_same_motion_long(self):
        self.assertIs(same_motion(TWELVE, TWELVE), True)
        self.assertIs(same_motion(TWELVE, TWELVE[::-1]), False)
        self.assertIs(same_motion(TWELVE, TWELVE[:11]), False)
        self.assertIs(same_motion(TWELVE[:6] + TWELVE[:6][::-1], ()), True)
        self.assertIs(same_motion((), TWELVE[:6] + TWELVE[:6][::-1]), True)
        self.assertIs(same_motion((), ("a",)), False)
        for one, other in zip(TWELVE, TWELVE[1:]):
            self.assertIs(same_motion((one, other), (other, seen_in(one, other))), True)


class TurnsTest(unittest.TestCase):
    def check(self, row, many):
        self.assertEqual(fewest_turns(row), many, row)
        turns = turns_for(row)
        self.assertIs(type(turns), tuple)
        self.assertEqual(len(turns), many, row)
        self.assertTrue(all(is_way(way) for way in turns))
        self.assertEqual(house.led_by_walking("", turns), row)
        self.assertIs(is_turns_for(row, turns), True)
        return turns

    def test_all_sets_of_letters(self):
        for row in house.rows(3, 6) + house.rows(2, 10):
            self.check(row, house.fewest_by_sets(row))
        for seed in range(40):
            row = house.made_row(seed, 7 + seed % 4, 3 + seed % 2)
            self.check(row, house.fewest_by_sets(row))

    def test_all_doors(self):
        doors = house.ways(3, 4)
        here, known = [""], {"": 0}
        for many in (1, 2, 3):
            here = [turned(way, room) for room in here for way in (doors if many < 3 else "abc")]
            for room in here:
                known.setdefault(room, many)
        for row in house.rows(3, 3):
            self.assertEqual(fewest_turns(row), known[row], row)
        for room, many in known.items():
            if len(room) <= 9:
                self.assertLessEqual(fewest_turns(room), many)
                self.assertEqual(fewest_turns(room) % 2, many % 2)

    def test_long(self):
        for seed in range(6):
            for many in (2, 3, 4, 8):
                row = house.made_row(seed, 60 - seed, many)
                self.check(row, house.fewest_by_spans(row))

    def test_edges(self):
        self.assertEqual((fewest_turns(""), turns_for("")), (0, ()))
        self.assertEqual((fewest_turns("h"), turns_for("h")), (1, ("h",)))
        self.check("ab" * 30, 2)
        self.check("abcdefgh", 8)
        self.check("abcdefgh" * 7 + "abcd", house.fewest_by_spans("abcdefgh" * 7 + "abcd"))
        for way in house.ways(3, 3) + [row[:30] for row in LONG]:
            self.assertEqual(self.check(palindrome(way), 1), (way,))

    def test_is_turns_for_tells_all(self):
        tried = [turns for many in range(3)
                 for turns in itertools.product(house.ways(2, 3), repeat=many)]
        for row in house.rows(2, 4):
            few = house.fewest_by_sets(row)
            for turns in tried:
                right = len(turns) == few and house.led_by_walking("", turns) == row
                self.assertIs(is_turns_for(row, turns), right, (row, turns))

    def test_too_many_turns(self):
        for row in house.rows(3, 4):
            turns = turns_for(row)
            self.assertIs(is_turns_for(row, turns + ("a", "a")), False)
            self.assertIs(is_turns_for(row, ("ab", "ab") + turns), False)
            if turns:
                self.assertIs(is_turns_for(row, turns[1:]), False)
                self.assertIs(is_turns_for(row, turns[:-1]), False)
        self.assertIs(is_turns_for("ab", ("b", "a")), True)
        self.assertIs(is_turns_for("ab", ("a", "b")), False)
        self.assertIs(is_turns_for("", ()), True)
        self.assertIs(is_turns_for("", ("a", "a")), False)
        self.assertIs(is_turns_for("a", ()), False)

    def test_wrong_things(self):
        for thing in house.ODD + ["", "a", "ab", "b", ["b", "ab"], "bab", {}]:
            for row in ("abab", "a", "ab"):
                if thing != ("a",) or row != "a":
                    self.assertIs(is_turns_for(row, thing), False, (row, thing))
            self.assertIs(is_turns_for("abab", (thing, "ab")), thing == "b", thing)
            self.assertIs(is_turns_for("abab", ("b", thing)), thing == "ab", thing)
        for thing in ([], None, False, 0, ""):
            self.assertIs(is_turns_for("", thing), False)
        for thing in (["a"], "a", ("a", ""), ("", "a"), ("a", ()), ("aa", "a", "a"), ("aaa",), (("a",),),
                      ("a", "a", "a"), ("",), ((),), (True,), (1,), (None,), (["a"],)):
            self.assertIs(is_turns_for("a", thing), False, thing)
        for thing in (("bb", "b", "ab"), ("b", "aab"), ("b", "abb"), ("bbb", "ab"), ("b", "ab", "")):
            self.assertIs(is_turns_for("abab", thing), False, thing)

    def test_ways_beyond_the_bounds(self):
        line = "ab" * 400
        for end in (1, 2, 99, 200, 201, 500, 798):
            self.assertIs(is_turns_for("abab", (line[:end], line[:end + 2])), True, end)
            self.assertIs(is_turns_for("abab", (line[:end], line[:end + 1])), False, end)
            self.assertIs(is_turns_for("abab", (line[:end + 2], line[:end])), False, end)
            self.assertIs(is_turns_for("abab", [line[:end], line[:end + 2]]), False, end)
        self.assertIs(is_turns_for("abab", ("b", "ab") + ("c",) * 1000), False)


if __name__ == "__main__":
    unittest.main()
