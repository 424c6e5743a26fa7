"""Promises 2 and 7: calls, the kinds of their values, and their values."""

import unittest

from overrows.functions import call_value, is_call, kind_of, reads_frame
from tests.samples import COLUMNS, STRAY_VALUES, deep, each_false, each_true, in_all_forms, listed

PLAIN_RANKS = ["row", "rank", "dense", "percent", "share"]
SUMS = ["count", "sum", "mean", "least", "most", "joined"]
OFFSETS = ["earlier", "later", "first", "last", "nth"]
WRONG_ARGUMENTS = [
    None, 0, "", "price", [], ["price"], (None,), (1,), (True,), ("prices",), (("price",),), (["price"],), ((),),
    ("price", None), ("price", True), ("price", "price"), ("price", "alike"), ("unlike",), ("unlike", "price"),
    ("price", "unlike", "unlike"), ("price", ("unlike",)), ("price", ["unlike"]), ("counted",), ("counted", "price"),
    ("price", 1), ("price", 1, 1, 1), ("price", "counted", "counted"), ("price", 1, "counted", None),
    ("price", "counted", 1), (1, "price", "counted"), ("price", 1, None), ("price", 1, None, None, "counted"),
]


class IsCall(unittest.TestCase):
    def test_ranks(self):
        each_true(self, is_call, [(function, ()) for function in PLAIN_RANKS], columns=COLUMNS)
        each_true(self, is_call, [("tile", (1,)), ("tile", (50,)), ("tile", (10 ** 30,))], columns=COLUMNS)
        for function in PLAIN_RANKS:
            each_false(self, is_call, [(function, arguments) for arguments in WRONG_ARGUMENTS], columns=COLUMNS)
        wrong = [(), (0,), (-1,), (True,), (False,), (None,), ("1",), (1, 1), ((1,),), [1], ([1],), 1, None, ("price",)]
        each_false(self, is_call, [("tile", arguments) for arguments in wrong], columns=COLUMNS)

    def test_steps(self):
        for function in ("earlier", "later"):
            for nulls in ("counted", "passed"):
                each_true(self, is_call, [
                    (function, ("price", 0, None, nulls)),
                    (function, ("price", 1, -5, nulls)),
                    (function, ("price", 10 ** 30, 10 ** 30, nulls)),
                    (function, ("kind", 2, "", nulls)),
                    (function, ("kind", 50, "more than twelve characters", nulls)),
                    (function, ("kind", 50, None, nulls)),
                ], columns=COLUMNS)
            each_false(self, is_call, [(function, arguments) for arguments in WRONG_ARGUMENTS + [
                (), ("price",), ("price", "counted"), ("price", 1, "counted"), ("price", -1, None, "counted"),
                ("price", True, None, "counted"), ("price", False, None, "counted"), ("price", None, None, "counted"),
                ("price", "1", None, "counted"), ("price", 1, "0", "counted"), ("price", 1, True, "counted"),
                ("price", 1, False, "counted"), ("price", 1, (), "counted"), ("price", 1, (1, 2), "counted"),
                ("kind", 1, 0, "counted"), ("kind", 1, False, "counted"), ("kind", 1, (), "counted"),
                ("prices", 1, None, "counted"), (None, 1, None, "counted"), ("price", 1, None, "Counted"),
                ("price", 1, None, None), ("price", 1, None, ("counted",)), ("price", 1, None, "unlike"),
                ["price", 1, None, "counted"], ("price", 1, None, "counted", "counted"),
            ]], columns=COLUMNS)

    def test_first_and_last(self):
        for function in ("first", "last"):
            each_true(self, is_call, [
                (function, (name, nulls)) for name, _ in COLUMNS for nulls in ("counted", "passed")
            ], columns=COLUMNS)
            each_false(self, is_call, [(function, arguments) for arguments in WRONG_ARGUMENTS + [
                (), ("price",), ("prices", "counted"), ("price", "unlike"), ("price", 1, "counted"),
                ["price", "passed"], ("price", ["passed"]), (("price",), "passed"), (None, "passed"),
                ("price", 1, None, "counted"), ("price", None, "counted"),
            ]], columns=COLUMNS)

    def test_nth(self):
        each_true(self, is_call, [
            ("nth", (name, number, nulls))
            for name, _ in COLUMNS for number in (1, 2, 50, 10 ** 30) for nulls in ("counted", "passed")
        ], columns=COLUMNS)
        each_false(self, is_call, [("nth", arguments) for arguments in WRONG_ARGUMENTS + [
            (), ("price",), ("price", "counted"), ("price", 0, "counted"), ("price", -1, "counted"),
            ("price", True, "counted"), ("price", None, "counted"), ("price", "1", "counted"), ("prices", 1, "counted"),
            ("price", 1, "unlike"), ("price", 1, None, "counted"), ["price", 1, "counted"], ("price", (1,), "counted"),
        ]], columns=COLUMNS)

    def test_sums(self):
        fine = [("count", ())]
        for function in SUMS:
            for name, kind in COLUMNS:
                takes = {"sum": ["number"], "mean": ["number"], "joined": ["text"]}.get(function, ["number", "text"])
                for arguments in ((name,), (name, "unlike")):
                    if kind in takes and (len(arguments) == 1 or function not in ("least", "most")):
                        fine.append((function, arguments))
                    else:
                        self.assertIs(is_call(COLUMNS, (function, arguments)), False, (function, arguments))
        self.assertEqual(len(fine), 1 + 6 + 4 + 4 + 3 + 3 + 2)
        each_true(self, is_call, fine, columns=COLUMNS)

    def test_wrong_sums(self):
        for function in SUMS:
            each_false(self, is_call, [(function, arguments) for arguments in WRONG_ARGUMENTS], columns=COLUMNS)
            if function != "count":
                self.assertIs(is_call(COLUMNS, (function, ())), False)

    def test_stray_values(self):
        each_false(self, is_call, STRAY_VALUES + [deep(16), listed(deep(16))], columns=COLUMNS)

    def test_wrong_functions(self):
        for function in ["", "Count", "counted", "ranks", "min", None, True, 0, (), ("count",), ["count"], (("row",),)]:
            for arguments in [(), (1,), ("price",), ("price", "counted")]:
                with self.subTest(function=function, arguments=arguments):
                    self.assertIs(is_call(COLUMNS, (function, arguments)), False)

    def test_wrong_shapes(self):
        each_false(self, is_call, [
            ["row", ()], ["count", ["price"]], ("count",), ("count", (), ()), ("count", ("price",), None), "row",
            ("count", "price"), ((), "row"), (("row", ()),),
        ], columns=COLUMNS)

    def test_columns_of_another_table(self):
        columns = (("a", "text"), ("b", "number"))
        self.assertIs(in_all_forms(self, is_call, columns=columns, thing=("sum", ("b",))), True)
        self.assertIs(in_all_forms(self, is_call, columns=columns, thing=("sum", ("a",))), False)
        self.assertIs(in_all_forms(self, is_call, columns=columns, thing=("count", ("price",))), False)
        self.assertIs(in_all_forms(self, is_call, columns=(), thing=("count", ())), True)

    def test_columns_with_names_of_other_words(self):
        columns = (("counted", "number"), ("unlike", "text"))
        each_true(self, is_call, [
            ("first", ("counted", "counted")), ("count", ("unlike", "unlike")), ("joined", ("unlike",)),
            ("nth", ("unlike", 1, "passed")), ("later", ("unlike", 0, "unlike", "counted")),
        ], columns=columns)
        each_false(self, is_call, [
            ("first", ("counted",)), ("last", ("unlike",)), ("nth", ("counted",)), ("earlier", ("counted",)),
            ("sum", ("unlike", "counted")), ("joined", ("unlike", "counted")),
        ], columns=columns)


class KindOf(unittest.TestCase):
    def kinds(self, function, *more):
        return [in_all_forms(self, kind_of, columns=COLUMNS, call=(function, (name, *more))) for name, _ in COLUMNS]

    def test_kind_of_the_column(self):
        of_columns = ["text", "number", "number"]
        self.assertEqual(self.kinds("least"), of_columns)
        self.assertEqual(self.kinds("most"), of_columns)
        for nulls in ("counted", "passed"):
            self.assertEqual(self.kinds("earlier", 1, None, nulls), of_columns)
            self.assertEqual(self.kinds("later", 0, None, nulls), of_columns)
            self.assertEqual(self.kinds("first", nulls), of_columns)
            self.assertEqual(self.kinds("last", nulls), of_columns)
            self.assertEqual(self.kinds("nth", 2, nulls), of_columns)

    def test_numbers_and_texts(self):
        self.assertEqual(self.kinds("count"), ["number"] * 3)
        self.assertEqual(self.kinds("count", "unlike"), ["number"] * 3)
        for function in PLAIN_RANKS + ["count"]:
            self.assertEqual(in_all_forms(self, kind_of, columns=COLUMNS, call=(function, ())), "number")
        for call in [("tile", (2,)), ("sum", ("price",)), ("mean", ("day",)), ("sum", ("day", "unlike"))]:
            self.assertEqual(in_all_forms(self, kind_of, columns=COLUMNS, call=call), "number")
        for call in [("joined", ("kind",)), ("joined", ("kind", "unlike"))]:
            self.assertEqual(in_all_forms(self, kind_of, columns=COLUMNS, call=call), "text")


class ReadsFrame(unittest.TestCase):
    def test_each_function(self):
        for function in SUMS + ["first", "last", "nth"]:
            self.assertIs(in_all_forms(self, reads_frame, function=function), True)
        for function in PLAIN_RANKS + ["tile", "earlier", "later"]:
            self.assertIs(in_all_forms(self, reads_frame, function=function), False)


class CallValue(unittest.TestCase):
    def value(self, function, arguments, look):
        return in_all_forms(self, call_value, call=(function, arguments), look=look)

    def test_examples(self):
        self.assertEqual(self.value("percent", (), (2, 5)), (1, 2))
        self.assertEqual(self.value("tile", (2,), (2, 5)), 1)
        self.assertEqual(self.value("tile", (9,), (3, 5)), 4)
        self.assertEqual(self.value("joined", ("kind", "unlike"), ("tea", "rice", "tea")), "tea,rice")
        self.assertEqual(self.value("mean", ("price",), (3, 4, 5, 2)), (7, 2))

    def test_places(self):
        for function in ("row", "rank", "dense"):
            for ahead in (0, 1, 6, 70):
                self.assertEqual(self.value(function, (), (ahead,)), ahead + 1)

    def test_percent(self):
        wanted = {(0, 1): (0, 1), (0, 2): (0, 1), (1, 2): (1, 1), (0, 7): (0, 1), (3, 7): (1, 2), (6, 7): (1, 1),
                  (4, 7): (2, 3), (5, 7): (5, 6)}
        for look, value in wanted.items():
            self.assertEqual(self.value("percent", (), look), value)

    def test_share(self):
        wanted = {(1, 1): (1, 1), (1, 2): (1, 2), (2, 2): (1, 1), (4, 6): (2, 3), (3, 7): (3, 7), (6, 6): (1, 1)}
        for look, value in wanted.items():
            self.assertEqual(self.value("share", (), look), value)

    def test_tiles(self):
        for rows in range(1, 14):
            for tiles in range(1, 16):
                least, more = rows // tiles, rows % tiles
                dealt = [tile for tile in range(1, tiles + 1) for _ in range(least + (1 if tile <= more else 0))]
                self.assertEqual([call_value(("tile", (tiles,)), (ahead, rows)) for ahead in range(rows)], dealt)
        self.assertEqual([self.value("tile", (3,), (ahead, 5)) for ahead in range(5)], [1, 1, 2, 2, 3])
        self.assertEqual(self.value("tile", (1,), (0, 1)), 1)

    def test_offsets(self):
        for function in ("earlier", "later"):
            self.assertEqual(self.value(function, ("price", 1, 7, "counted"), (3,)), 3)
            self.assertIsNone(self.value(function, ("price", 1, 7, "counted"), (None,)))
            self.assertEqual(self.value(function, ("price", 1, 7, "counted"), ()), 7)
            self.assertEqual(self.value(function, ("price", 1, 0, "passed"), ()), 0)
            self.assertEqual(self.value(function, ("kind", 1, "", "passed"), ()), "")
            self.assertIsNone(self.value(function, ("kind", 1, None, "passed"), ()))
        for function in ("first", "last"):
            self.assertEqual(self.value(function, ("kind", "counted"), ("tea",)), "tea")
            self.assertEqual(self.value(function, ("price", "passed"), (0,)), 0)
            self.assertIsNone(self.value(function, ("kind", "counted"), (None,)))
            self.assertIsNone(self.value(function, ("kind", "counted"), ()))
        self.assertEqual(self.value("nth", ("price", 2, "counted"), (-4,)), -4)
        self.assertIsNone(self.value("nth", ("price", 2, "counted"), ()))
        self.assertIsNone(self.value("nth", ("price", 2, "passed"), ()))

    def test_no_values_at_all(self):
        self.assertEqual(self.value("count", (), ()), 0)
        self.assertEqual(self.value("count", ("price",), ()), 0)
        self.assertEqual(self.value("count", ("kind", "unlike"), ()), 0)
        for function, name in [("sum", "price"), ("mean", "price"), ("least", "kind"), ("most", "price"),
                               ("joined", "kind")]:
            self.assertIsNone(self.value(function, (name,), ()))
        for function, name in [("sum", "price"), ("mean", "price"), ("joined", "kind")]:
            self.assertIsNone(self.value(function, (name, "unlike"), ()))

    def test_count(self):
        self.assertEqual(self.value("count", (), (1, 1, 1)), 3)
        self.assertEqual(self.value("count", ("price",), (5, 5, 7)), 3)
        self.assertEqual(self.value("count", ("price", "unlike"), (5, 5, 7)), 2)
        self.assertEqual(self.value("count", ("kind", "unlike"), ("a", "b", "a", "")), 3)

    def test_sum(self):
        self.assertEqual(self.value("sum", ("price",), (5, 5, -7)), 3)
        self.assertEqual(self.value("sum", ("price",), (0,)), 0)
        self.assertEqual(self.value("sum", ("price", "unlike"), (5, 5, -7, 5)), -2)
        self.assertEqual(self.value("sum", ("price",), (10 ** 12,) * 40), 40 * 10 ** 12)

    def test_mean(self):
        self.assertEqual(self.value("mean", ("price",), (4, 4)), (4, 1))
        self.assertEqual(self.value("mean", ("price",), (0, 0, 0)), (0, 1))
        self.assertEqual(self.value("mean", ("price",), (-3, -1, -2, -4)), (-5, 2))
        self.assertEqual(self.value("mean", ("price",), (1, 0, 0)), (1, 3))
        self.assertEqual(self.value("mean", ("price", "unlike"), (1, 4, 1, 1)), (5, 2))
        self.assertEqual(self.value("mean", ("price",), (10 ** 12, 10 ** 12 - 1)), (2 * 10 ** 12 - 1, 2))

    def test_least_and_most(self):
        self.assertEqual(self.value("least", ("price",), (3, -4, 10)), -4)
        self.assertEqual(self.value("most", ("price",), (3, -4, 10)), 10)
        self.assertEqual(self.value("least", ("kind",), ("b", "B", "ab")), "B")
        self.assertEqual(self.value("most", ("kind",), ("b", "B", "ab")), "b")
        self.assertEqual(self.value("least", ("kind",), ("",)), "")

    def test_joined(self):
        self.assertEqual(self.value("joined", ("kind",), ("tea", "rice", "tea")), "tea,rice,tea")
        self.assertEqual(self.value("joined", ("kind",), ("", "")), ",")
        self.assertEqual(self.value("joined", ("kind",), ("",)), "")
        self.assertEqual(self.value("joined", ("kind", "unlike"), ("b", "a", "b", "a", "c")), "b,a,c")
        self.assertEqual(self.value("joined", ("kind", "unlike"), ("", "a,b", "")), ",a,b")


if __name__ == "__main__":
    unittest.main()
