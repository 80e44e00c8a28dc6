import unittest

from mirrordoors import errors

# Each class, the built-in class right above it, and the names of its values.
CLASSES = [
    ("NoLetter", LookupError, ["letter"]),
    ("NoNumber", LookupError, ["number"]),
    ("NoWay", LookupError, ["way"]),
    ("NothingDone", LookupError, []),
    ("NoMirror", ValueError, []),
    ("Endless", ValueError, []),
    ("Unfit", ValueError, []),
    ("Known", ValueError, ["way"]),
    ("BadText", ValueError, []),
    ("BadLine", ValueError, ["number"]),
]
VALUES = {
    "letter": ["a", "h", "c"],
    "number": [0, -1, 7, 10 ** 40, -10 ** 40],
    "way": ["a", "abc", "ab" * 100],
}


class ErrorsTest(unittest.TestCase):
    def test_base_class(self):
        for name, base, _ in CLASSES:
            self.assertEqual(getattr(errors, name).__bases__, (base,), name)

    def test_none_is_under_another_one(self):
        for name, _, _ in CLASSES:
            for other, _, _ in CLASSES:
                under = issubclass(getattr(errors, name), getattr(errors, other))
                self.assertEqual(under, name == other, (name, other))

    def test_value_by_position_and_by_name(self):
        for name, base, names in CLASSES:
            made = getattr(errors, name)
            for attribute in names:
                for value in VALUES[attribute]:
                    for error in (made(value), made(**{attribute: value})):
                        self.assertIsInstance(error, base)
                        self.assertEqual(vars(error), {attribute: value})
                        self.assertIs(type(getattr(error, attribute)), type(value))

    def test_without_values(self):
        for name, base, names in CLASSES:
            made = getattr(errors, name)
            if names:
                with self.assertRaises(TypeError):
                    made()
            else:
                self.assertIsInstance(made(), base)
                self.assertEqual(vars(made()), {})

    def test_raised_and_caught(self):
        for name, base, names in CLASSES:
            made = getattr(errors, name)
            values = [VALUES[attribute][0] for attribute in names]
            for caught in (made, base):
                with self.assertRaises(caught) as told:
                    raise made(*values)
                self.assertIs(type(told.exception), made)


if __name__ == "__main__":
    unittest.main()
