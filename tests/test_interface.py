"""Promises 2 and 18: each function stands in the file that the interface names, with the arguments shown."""

import importlib
import inspect
import unittest

FUNCTIONS = {
    "tables": {
        "is_table": ["thing"],
        "column_of": ["table", "name"],
        "cells_of": ["table", "number"],
        "added": ["table", "number", "cells"],
        "changed": ["table", "number", "cells"],
        "deleted": ["table", "number"],
    },
    "orders": {
        "is_order": ["columns", "thing"],
        "ordered": ["table", "order"],
    },
    "parts": {
        "is_window": ["columns", "thing"],
        "partitions": ["table", "window"],
        "partition_of": ["table", "window", "number"],
        "peers": ["table", "window", "number"],
        "is_ahead": ["table", "window", "one", "other"],
    },
    "functions": {
        "is_call": ["columns", "thing"],
        "kind_of": ["columns", "call"],
        "reads_frame": ["function"],
        "call_value": ["call", "look"],
    },
    "ranks": {
        "rank_looks": ["function", "line"],
    },
    "frames": {
        "is_frame": ["thing"],
        "frame_fits": ["frame", "order", "columns"],
        "line_of": ["table", "window", "numbers"],
        "bounds": ["line", "place", "frame"],
        "pieces": ["line", "place", "frame"],
        "stretches": ["line", "place", "frame"],
        "frame_places": ["line", "place", "frame"],
        "turned": ["frame"],
        "holders": ["line", "place", "frame"],
    },
    "offsets": {
        "offset_looks": ["call", "cells", "line", "frame"],
    },
    "sums": {
        "bare": ["function", "unlike"],
        "lifted": ["function", "unlike", "value"],
        "joined_states": ["function", "unlike", "early", "late"],
        "taken_away": ["function", "unlike", "state", "part"],
        "state_value": ["function", "unlike", "state"],
    },
    "ways": {
        "ways_of": ["function", "unlike"],
        "reckoned": ["function", "unlike", "cells", "line", "frame", "way"],
    },
    "conditions": {
        "is_condition": ["columns", "thing"],
        "truth": ["columns", "condition", "cells"],
        "names_in": ["condition"],
        "kept": ["table", "condition"],
    },
    "plain": {
        "is_figure": ["columns", "thing"],
        "is_query": ["columns", "thing"],
        "look": ["table", "figure", "number"],
        "figures": ["table", "query"],
        "answer": ["table", "query"],
    },
    "plans": {
        "is_plan": ["columns", "figures", "thing"],
        "run_plan": ["table", "query", "plan"],
        "fewest_sorts": ["figures"],
        "fewest_plan": ["figures"],
        "apart": ["figures"],
        "shows_fewest": ["figures", "plan", "thing"],
    },
    "needs": {
        "needs": ["figures"],
        "serves": ["sort", "need"],
        "can_share": ["one", "other"],
        "sort_for": ["needs"],
    },
    "passing": {
        "may_pass": ["columns", "figures", "condition"],
        "moved": ["columns", "query"],
    },
    "parting": {
        "parting": ["columns", "figures", "condition"],
        "shows_parting": ["columns", "figures", "condition", "thing"],
    },
    "touched": {
        "touched": ["table", "later", "query"],
    },
    "reasons": {
        "why": ["table", "figure", "number"],
        "shows_why": ["table", "figure", "number", "thing"],
        "look_shown": ["table", "figure", "reason"],
    },
    "pages": {
        "runs": ["table", "sort", "room", "page"],
        "merges": ["lengths", "room", "page"],
        "moved_by": ["lengths", "merges"],
        "shows_merges": ["lengths", "room", "page", "thing"],
        "spilled": ["table", "query", "plan", "room", "page"],
    },
    "texts": {
        "query_in": ["columns", "text"],
        "windows_in": ["columns", "text"],
        "same_query": ["columns", "one", "other"],
        "query_text": ["query"],
        "named_text": ["query"],
    },
    "desk": {
        "answers": ["text"],
    },
}


class Interface(unittest.TestCase):
    def test_functions_stand_in_their_files_with_their_arguments(self):
        for file, functions in FUNCTIONS.items():
            module = importlib.import_module(f"overrows.{file}")
            for name, arguments in functions.items():
                with self.subTest(file=file, name=name):
                    function = getattr(module, name)
                    self.assertTrue(inspect.isfunction(function))
                    self.assertEqual(function.__module__, f"overrows.{file}")
                    self.assertEqual(list(inspect.signature(function).parameters), arguments)

    def test_the_board_stands_in_its_file(self):
        module = importlib.import_module("overrows.live")
        self.assertTrue(inspect.isclass(module.Board))
        self.assertEqual(module.Board.__module__, "overrows.live")


if __name__ == "__main__":
    unittest.main()
