"""That each name of the interface stands in its own file, with the parameters that are shown."""

import ast
import importlib
import inspect
import pathlib
import unittest

PACKAGE = pathlib.Path(__file__).resolve().parent.parent / "mirrordoors"

INTERFACE = {
    "errors": {
        "NoLetter": ["letter"], "NoNumber": ["number"], "NoWay": ["way"], "NothingDone": [],
        "NoMirror": [], "Endless": [], "Unfit": [], "Known": ["way"], "BadText": [],
        "BadLine": ["number"],
    },
    "rows": {
        "is_word": ["thing"], "is_row": ["thing"], "is_way": ["thing"], "reduced": ["word"],
        "joined": ["one", "other"], "back": ["row"], "path": ["one", "other"],
        "distance": ["one", "other"], "doors_on": ["one", "other"],
        "meeting": ["one", "other", "third"], "next_rooms": ["room", "many"],
        "begins": ["one", "other"], "rooms_of": ["way"], "palindrome": ["way"],
        "is_palindrome": ["thing"], "way_of": ["row"], "turned": ["way", "room"],
    },
    "looks": {
        "seen_in": ["one", "other"], "seen_along": ["way", "ways"], "is_recipe": ["thing"],
        "way_shown": ["recipe"], "recipe_of": ["way"], "is_recipe_of": ["way", "thing"],
        "alike": ["one", "other"], "letters_to": ["one", "other"], "room_after": ["room", "ways"],
        "same_motion": ["one", "other"], "fewest_turns": ["row"], "turns_for": ["row"],
        "is_turns_for": ["row", "thing"],
    },
}


class InterfaceTest(unittest.TestCase):
    def test_each_name_is_defined_in_its_file(self):
        for name, listed in INTERFACE.items():
            tree = ast.parse((PACKAGE / (name + ".py")).read_text())
            classes = [node.name for node in tree.body if isinstance(node, ast.ClassDef)]
            functions = [node.name for node in tree.body if isinstance(node, ast.FunctionDef)]
            for word in listed:
                self.assertIn(word, classes if name == "errors" else functions, name)

    def test_parameters(self):
        for name, listed in INTERFACE.items():
            module = importlib.import_module("mirrordoors." + name)
            for word, parameters in listed.items():
                thing = getattr(module, word)
                self.assertEqual(thing.__module__, "mirrordoors." + name)
                shown = inspect.signature(thing).parameters.values()
                self.assertEqual([one.name for one in shown], parameters, word)
                for one in shown:
                    self.assertEqual(one.kind, one.POSITIONAL_OR_KEYWORD)
                    self.assertIs(one.default, one.empty)


if __name__ == "__main__":
    unittest.main()
