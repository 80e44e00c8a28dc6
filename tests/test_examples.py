"""That each example of the document comes out as it stands there, from [10] on.

examples.txt holds them, below the numbers of their points: what is asked stands behind >>>, what
comes of it in the next line, or nothing if it only does something.
"""

import importlib
import pathlib
import re
import unittest

from tests.test_interface import INTERFACE

HERE = pathlib.Path(__file__).resolve().parent


def examples():
    """For each point the list of the pairs (what is asked, what comes of it)."""
    found = {}
    for line in (HERE / "examples.txt").read_text().splitlines():
        if re.fullmatch(r"\[[0-9]+\]", line):
            here = found[line] = []
        elif line.startswith(">>> "):
            here.append((line[4:], ""))
        elif line:
            here[-1] = (here[-1][0], line)
    return found


def all_names():
    """Each name of the interface."""
    return {word: getattr(importlib.import_module("mirrordoors." + name), word)
            for name, listed in INTERFACE.items() for word in listed}


def as_it_stands(error):
    """How the document writes what is raised."""
    kept = ", ".join(f"{name}={value!r}" for name, value in vars(error).items())
    return f"raises {type(error).__name__}({kept})"


class ExamplesTest(unittest.TestCase):
    def check(self, asked, comes, names):
        if comes.startswith("raises "):
            with self.assertRaises((LookupError, ValueError)) as told:
                eval(asked, names)
            self.assertEqual(as_it_stands(told.exception), comes)
        elif comes:
            told, stated = eval(asked, names), eval(comes)
            self.assertEqual(told, stated, asked)
            # Lists and tuples, True and 1 are told apart.
            self.assertEqual(repr(told), repr(stated), asked)
        else:
            exec(asked, names)

    def test_each_example(self):
        for point, found in examples().items():
            names = all_names()
            for asked, comes in found:
                with self.subTest(point, asked=asked):
                    self.check(asked, comes, names)

    def test_no_point_is_left_out(self):
        self.assertEqual(list(examples()), [f"[{point}]" for point in range(10, 18)])
        self.assertEqual([len(found) for found in examples().values()], [8, 8, 13, 9, 7, 8, 5, 3])


if __name__ == "__main__":
    unittest.main()
