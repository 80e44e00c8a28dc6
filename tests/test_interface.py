"""That each name of the interface stands in its own file, with the parameters that are shown."""

import ast
import importlib
import inspect
import pathlib
import unittest

PACKAGE = pathlib.Path(__file__).resolve().parent.parent / "mirrordoors"

INTERFACE = {
    "errors": {
        "NoLetter": ["letter"], "NoNumber": ["number"], "NoWay": ["way"], "NothingDone": [],
        "NoMirror": [], "Endless": [], "Unfit": [], "Known": ["way"], "BadText": [],
        "BadLine": ["number"],
    },
    "rows": {
        "is_word": ["thing"], "is_row": ["thing"], "is_way": ["thing"], "reduced": ["word"],
        "joined": ["one", "other"], "back": ["row"], "path": ["one", "other"],
        "distance": ["one", "other"], "doors_on": ["one", "other"],
        "meeting": ["one", "other", "third"], "next_rooms": ["room", "many"],
        "begins": ["one", "other"], "rooms_of": ["way"], "palindrome": ["way"],
        "is_palindrome": ["thing"], "way_of": ["row"], "turned": ["way", "room"],
    },
    "looks": {
        "seen_in": ["one", "other"], "seen_along": ["way", "ways"], "is_recipe": ["thing"],
        "way_shown": ["recipe"], "recipe_of": ["way"], "is_recipe_of": ["way", "thing"],
        "alike": ["one", "other"], "letters_to": ["one", "other"], "room_after": ["room", "ways"],
        "same_motion": ["one", "other"], "fewest_turns": ["row"], "turns_for": ["row"],
        "is_turns_for": ["row", "thing"],
    },
    "halls": {
        "is_sheet": ["points", "thing"], "is_hall": ["thing"], "hall_letters": ["hall"],
        "point_after": ["hall", "word", "point"], "row_to": ["hall", "point", "to"],
        "seen_sheet": ["one", "other"], "sheet_of": ["hall", "way"],
        "sheet_shown": ["hall", "recipe"], "alike_in": ["hall", "one", "other"],
        "parting_hall": ["one", "other"], "is_parting_hall": ["one", "other", "thing"],
        "all_sheets": ["hall"], "how_many_show": ["hall", "sheet", "length"],
        "shortest_way": ["hall", "sheet"],
    },
    "makers": {
        "makers": ["ways"], "are_makers": ["thing"], "is_of": ["ways", "way"],
        "folded": ["ways", "way"], "chain_to": ["ways", "way"], "within": ["one", "other"],
        "same_family": ["one", "other"], "together": ["one", "other"], "needless": ["ways"],
        "are_free": ["ways"], "doors_of": ["ways", "longest"], "how_many_of": ["ways", "length"],
    },
    "rooms": {
        "is_left": ["ways", "room"], "room_folded": ["ways", "room"],
        "same_rest": ["ways", "one", "other"], "turns_to": ["ways", "one", "other"],
        "doors_between": ["ways", "one", "other"], "steps_out": ["ways", "room"],
        "share": ["way", "many"], "shares": ["ways", "many"], "is_whole": ["ways", "many"],
        "rooms_left": ["ways", "many"], "how_many_rooms": ["ways", "many"],
        "how_many_left": ["ways", "many", "length"],
        "left_at": ["ways", "many", "length", "number"],
    },
    "counts": {
        "how_many_ways": ["many", "length"], "way_at": ["many", "length", "number"],
        "number_of_way": ["many", "way"], "how_many_whole": ["many", "rooms"],
        "whole_at": ["many", "rooms", "number"], "number_of_whole": ["many", "ways"],
        "how_many_sets": ["many", "longest"], "set_at": ["many", "longest", "number"],
        "number_of_set": ["many", "longest", "ways"], "how_many_with": ["many", "sizes"],
        "set_with": ["many", "sizes"],
    },
    "between": {
        "mirror_between": ["one", "other"], "is_between": ["one", "other", "thing"],
        "doors_from": ["one", "other"], "can_become": ["one", "other"], "middle": ["one", "other"],
        "pace": ["one", "other"], "looks_within": ["ways", "one", "other"],
        "is_looks_within": ["ways", "one", "other", "thing"],
        "led_within": ["ways", "one", "other"],
    },
    "flat": {
        "sums_of": ["way", "many"], "alike_flat": ["one", "other"],
        "alike_round": ["one", "other", "points"], "is_places": ["thing"],
        "number_shown": ["way", "places"], "flat_after": ["places", "word", "number"],
        "parting_places": ["one", "other"], "is_parting_places": ["one", "other", "thing"],
        "way_with": ["sums"], "is_way_with": ["sums", "thing"], "fewest_letters": ["sums"],
        "how_many_fewest": ["sums"],
    },
    "small": {
        "is_small": ["thing"], "in_order": ["small"], "begun_at": ["small", "room"],
        "room_in": ["small", "word"], "is_mirror": ["small", "way"],
        "how_many_mirrors": ["small", "length"], "least_mirror": ["small"],
        "small_of": ["ways", "many"], "is_family": ["small"], "makers_of": ["small"],
        "laid_onto": ["one", "other"], "both_small": ["one", "other"],
        "alike_elsewhere": ["one", "other"], "unlike_starts": ["small"],
    },
    "great": {
        "is_great": ["thing"], "great_of": ["row"], "spelled": ["great"], "canonical": ["great"],
        "great_length": ["great"], "great_letter": ["great", "place"], "great_back": ["great"],
        "great_joined": ["one", "other"], "great_palindrome": ["great"],
        "great_common": ["one", "other"], "great_begins": ["one", "other"],
        "great_distance": ["one", "other"], "great_seen_in": ["one", "other"],
        "great_sums": ["great", "many"],
    },
    "hidden": {
        "can_be": ["yes", "no"], "what_is_sure": ["yes", "no", "way"],
        "parting_door": ["one", "other"], "asks_for": ["many", "rooms"],
        "found_whole": ["many", "rooms", "asker"], "found_makers": ["many", "longest", "asker"],
        "found_way": ["many", "length", "asker"], "found_mirror": ["asker"],
    },
    "gallery": {"Gallery": ["ways"]},
    "texts": {
        "ways_text": ["ways"], "recipe_text": ["recipe"], "hall_text": ["hall"],
        "small_text": ["small"], "ways_read": ["text"], "recipe_read": ["text"],
        "hall_read": ["text"], "small_read": ["text"],
    },
    "desk": {"answers": ["text"]},
}

CLASSES = {"Gallery": (["ways", "makers", "deeds"], {
    "hang": ["way"], "take": ["way"], "look": ["way"], "tidy": [], "undo": [], "twin": [],
    "chain": ["way"],
})}


class InterfaceTest(unittest.TestCase):
    def test_each_name_is_defined_in_its_file(self):
        for name, listed in INTERFACE.items():
            tree = ast.parse((PACKAGE / (name + ".py")).read_text())
            classes = [node.name for node in tree.body if isinstance(node, ast.ClassDef)]
            functions = [node.name for node in tree.body if isinstance(node, ast.FunctionDef)]
            for word in listed:
                named = name == "errors" or word in CLASSES
                self.assertIn(word, classes if named else functions, name)

    def test_parameters(self):
        for name, listed in INTERFACE.items():
            module = importlib.import_module("mirrordoors." + name)
            for word, parameters in listed.items():
                thing = getattr(module, word)
                self.assertEqual(thing.__module__, "mirrordoors." + name)
                shown = inspect.signature(thing).parameters.values()
                self.assertEqual([one.name for one in shown], parameters, word)
                for one in shown:
                    self.assertEqual(one.kind, one.POSITIONAL_OR_KEYWORD)
                    if word in CLASSES:
                        self.assertEqual(one.default, ())
                    else:
                        self.assertIs(one.default, one.empty)

    def test_methods(self):
        for name, listed in INTERFACE.items():
            for word in set(listed) & set(CLASSES):
                own = vars(getattr(importlib.import_module("mirrordoors." + name), word))
                properties, methods = CLASSES[word]
                for each in properties:
                    self.assertIsInstance(own[each], property)
                    self.assertIsNone(own[each].fset)
                for each, parameters in methods.items():
                    self.assertTrue(inspect.isfunction(own[each]), each)
                    shown = list(inspect.signature(own[each]).parameters)
                    self.assertEqual(shown, ["self"] + parameters)


if __name__ == "__main__":
    unittest.main()
