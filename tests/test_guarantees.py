"""The main guarantees of the document, (a) to (f), over the whole program."""

import itertools
import unittest

from mirrordoors.between import is_between, mirror_between
from mirrordoors.counts import how_many_whole, number_of_set, number_of_whole, set_at, whole_at
from mirrordoors.flat import alike_flat, number_shown, parting_places, sums_of, way_with
from mirrordoors.great import great_of, great_seen_in
from mirrordoors.halls import is_parting_hall, parting_hall, sheet_of, sheet_shown
from mirrordoors.hidden import (
    asks_for, found_makers, found_mirror, found_whole, parting_door, what_is_sure)
from mirrordoors.looks import alike, recipe_of, seen_in, way_shown
from mirrordoors.makers import are_free, chain_to, is_of, makers, within
from mirrordoors.rooms import how_many_rooms, is_whole, rooms_left, shares
from mirrordoors.small import (
    is_family, is_mirror, laid_onto, makers_of, room_in, small_of)
from mirrordoors.texts import small_read, small_text, ways_read, ways_text
from tests import family, house, points

SETS = family.some_sets(2, 4, 3, 5) + family.some_sets(3, 3, 3, 29) + family.some_sets(3, 2, 4, 5)
WHOLE = [(many, whole_at(many, rooms, number))
         for many, most in ((2, 5), (3, 4), (4, 2)) for rooms in range(1, most + 1)
         for number in range(how_many_whole(many, rooms))]


class RecipesTest(unittest.TestCase):
    def test_recipes_and_all_halls_of_few_points(self):
        """(a) Alike exactly if no HALL of few points parts them."""
        recipes = [recipe for letters in (1, 2, 3) for recipe in house.recipes(2, letters)]
        shown = {recipe: [] for recipe in recipes}
        for count in range(1, 6):
            sheets = points.every_sheet(count)
            for pair in itertools.product(sheets, repeat=2):
                hall = (count, tuple(zip("ab", pair)))
                for recipe in recipes:
                    shown[recipe].append(sheet_shown(hall, recipe))
        for one, other in itertools.product(recipes, repeat=2):
            there = shown[one] == shown[other]
            self.assertIs(alike(one, other), there, (one, other))
            self.assertIs(way_shown(one) == way_shown(other), there)

    def test_a_small_hall_parts_them(self):
        recipes = [recipe for letters in (1, 2, 3) for recipe in house.recipes(3, letters)]
        for one, other in itertools.product(recipes, recipes[::3]):
            ways = way_shown(one), way_shown(other)
            hall = parting_hall(*ways)
            self.assertIs(hall is None, alike(one, other))
            if hall is not None:
                self.assertIs(is_parting_hall(*ways, hall), True)
                # Letters that the doors have lost leave all points where they are.
                sheets = {**{letter: () for letter in "abc"}, **dict(hall[1])}
                hall = (hall[0], tuple(sorted(sheets.items())))
                self.assertNotEqual(sheet_shown(hall, one), sheet_shown(hall, other))
                self.assertEqual(sheet_shown(hall, one), sheet_of(hall, ways[0]))
        for way in house.ways(3, 5):
            self.assertEqual(way_shown(recipe_of(way)), way)


class MakersTest(unittest.TestCase):
    def test_told_back(self):
        """(b) One least set of makers, told back by questions, by numbers and by texts."""
        for ways in SETS:
            made = makers(ways)
            longest = max(map(len, made), default=0)
            asked = found_makers(3, max(longest, 1), lambda way: is_of(ways, way))
            self.assertEqual(asked, made)
            self.assertEqual(set_at(3, longest, number_of_set(3, longest, made)), made)
            self.assertEqual(ways_read(ways_text(made)), made)
            self.assertIs(are_free(made), True)
            for count in range(len(made)):
                for fewer in itertools.combinations(made, count):
                    self.assertIs(within(ways, fewer), False)

    def test_no_two_shortest_chains(self):
        for ways in SETS[::3]:
            made = makers(ways)
            told = [family.told(chain) for chain in family.chains(made, 3)]
            self.assertEqual(len(told), len(set(told)))
            for chain in family.chains(made, 3):
                self.assertEqual(chain_to(ways, family.told(chain)), chain)

    def test_whole_ones(self):
        """(b), (c) By the small house, by numbers, and by the fewest questions."""
        for many, made in WHOLE:
            small = small_of(made, many)
            rooms = how_many_rooms(made, many)
            self.assertEqual(shares(made, many), (1, 1))
            self.assertEqual(makers_of(small), made)
            self.assertIs(is_family(small), True)
            self.assertEqual(small_read(small_text(small)), small)
            self.assertEqual(whole_at(many, rooms, number_of_whole(many, made)), made)
            asked = []

            def asker(way):
                asked.append(way)
                return is_mirror(small, way)

            self.assertEqual(found_whole(many, rooms, asker), made)
            self.assertEqual(len(asked), asks_for(many, rooms))

    def test_finitely_many_rooms(self):
        """(c) Exactly if their shares come to 1."""
        for ways in SETS:
            for many in (3, 4):
                self.assertIs(rooms_left(ways, many) is not None, shares(ways, many) == (1, 1))
                self.assertIs(is_whole(ways, many), shares(ways, many) == (1, 1))

    def test_within_is_laid_onto(self):
        """(c) One lies within another one exactly if its small house can be laid onto the other's."""
        for letters in (2, 3, 4):
            known = [(made, small_of(made, letters)) for many, made in WHOLE if many == letters]
            for (one, small), (other, other_small) in itertools.product(known, known[::2]):
                laid = laid_onto(small, other_small)
                self.assertIs(laid is not None, within(one, other))
                if laid is not None:
                    for row in house.rows(letters, 3):
                        self.assertEqual(laid[room_in(small, row)], room_in(other_small, row))
                    door = parting_door(one, other)
                    self.assertTrue(door is None or is_of(other, door))


class MirrorsTest(unittest.TestCase):
    def test_at_most_one_mirror(self):
        """(d) The one in which a told mirror is seen as another one."""
        ways = house.ways(3, 3)
        for one, other in itertools.product(ways, repeat=2):
            seen = seen_in(one, other)
            self.assertEqual(mirror_between(one, seen), other)
            self.assertIs(is_between(one, seen, other), True)
            self.assertEqual(great_seen_in(great_of(one), great_of(other)), great_of(seen))
        for hidden in ways:
            self.assertEqual(found_mirror(lambda way: seen_in(way, hidden)), hidden)

    def test_numbers_in_a_line(self):
        """(e) Sums with changing signs decide."""
        ways = house.ways(3, 4)
        for one, other in itertools.product(ways, ways[::2]):
            places = parting_places(one, other)
            self.assertIs(places is None, alike_flat(one, other))
            self.assertIs(sums_of(one, 3) == sums_of(other, 3), alike_flat(one, other))
            if places is not None:
                self.assertNotEqual(number_shown(one, places), number_shown(other, places))
        for way in ways:
            self.assertIs(alike_flat(way_with(sums_of(way, 3)), way), True)


class FactsTest(unittest.TestCase):
    def test_what_is_sure(self):
        """(f) With all that was asked, each door is sure; with one answer less, that door is not."""
        for many, made in WHOLE:
            left = [room for room in rooms_left(made, many) if room]
            for way in house.ways(many, 3 if many < 4 else 2):
                sure = "yes" if is_of(made, way) else "no"
                self.assertEqual(what_is_sure(made, left, way), sure)
            for maker in made:
                fewer = [other for other in made if other != maker]
                self.assertEqual(what_is_sure(fewer, left, maker), "open")

    def test_halls_know_doors(self):
        """Doors of a family keep what its makers keep: points that all of them leave as they are."""
        for hall in points.SMALL:
            letters = "".join(letter for letter, _ in hall[1])
            if 2 <= len(letters) <= 3 and letters in "abc":
                ways = house.ways(len(letters), 3)
                still = [way for way in ways if not any(0 in pair for pair in sheet_of(hall, way))]
                for way in ways:
                    if is_of(still[:12], way):
                        self.assertIn(way, still)


if __name__ == "__main__":
    unittest.main()
