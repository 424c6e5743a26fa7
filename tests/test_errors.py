"""Promise 18, the errors: their classes, what they keep, and under which class each one stands."""

import unittest

from overrows import errors

VALUE_ERRORS = [
    ("Taken", "number"), ("BadCells", "cells"), ("NoWay", "way"), ("NotSimple", "condition"), ("NotFree", "name"),
    ("BadLine", "number"), ("Twice", "name"), ("Fixed", "name"), ("Misfit", "number"), ("NoRoom", "room"),
]
LOOKUP_ERRORS = [("NoColumn", "name"), ("NoRow", "number"), ("NoWindow", "name"), ("NoOperation", "many")]


class Errors(unittest.TestCase):
    def check(self, name, base, attributes):
        made = getattr(errors, name)
        self.assertEqual(made.__bases__, (base,))
        self.assertEqual(made.__module__, "overrows.errors")
        values = [("one", 2, (index,)) for index in range(len(attributes))]
        by_name = dict(zip(attributes, values))
        for error in (made(*values), made(**by_name)):
            for attribute, value in by_name.items():
                self.assertIs(getattr(error, attribute), value)

    def test_under_value_error(self):
        for name, attribute in VALUE_ERRORS:
            with self.subTest(name=name):
                self.check(name, ValueError, [attribute])

    def test_under_lookup_error(self):
        for name, attribute in LOOKUP_ERRORS:
            with self.subTest(name=name):
                self.check(name, LookupError, [attribute])

    def test_under_runtime_error(self):
        self.check("Apart", RuntimeError, ["one", "other"])
        self.check("Unserved", RuntimeError, ["need"])

    def test_each_error_needs_its_values(self):
        for name, _ in VALUE_ERRORS + LOOKUP_ERRORS + [("Apart", ""), ("Unserved", "")]:
            with self.subTest(name=name), self.assertRaises(TypeError):
                getattr(errors, name)()

    def test_none_catches_another(self):
        made = [value for value in vars(errors).values() if isinstance(value, type)]
        self.assertEqual(len(made), 16)
        for one in made:
            for other in made:
                self.assertEqual(issubclass(one, other), one is other)


if __name__ == "__main__":
    unittest.main()
