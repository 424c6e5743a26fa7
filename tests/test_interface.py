"""Promises 2 and 18: each function stands in the file that the interface names, with the arguments shown."""

import importlib
import inspect
import unittest

FUNCTIONS = {
    "tables": {
        "is_table": ["thing"],
        "column_of": ["table", "name"],
        "cells_of": ["table", "number"],
        "added": ["table", "number", "cells"],
        "changed": ["table", "number", "cells"],
        "deleted": ["table", "number"],
    },
    "orders": {
        "is_order": ["columns", "thing"],
        "ordered": ["table", "order"],
    },
}


class Interface(unittest.TestCase):
    def test_functions_stand_in_their_files_with_their_arguments(self):
        for file, functions in FUNCTIONS.items():
            module = importlib.import_module(f"overrows.{file}")
            for name, arguments in functions.items():
                with self.subTest(file=file, name=name):
                    function = getattr(module, name)
                    self.assertTrue(inspect.isfunction(function))
                    self.assertEqual(function.__module__, f"overrows.{file}")
                    self.assertEqual(list(inspect.signature(function).parameters), arguments)


if __name__ == "__main__":
    unittest.main()
