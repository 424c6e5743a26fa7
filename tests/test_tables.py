"""Promises 2 and 4: tables, their columns and cells, and the tables that edits make of them."""

import unittest

from overrows.errors import BadCells, NoColumn, NoRow, Taken
from overrows.tables import added, cells_of, changed, column_of, deleted, is_table
from tests.samples import (
    COLUMNS, NO_ROWS, SHOP, STRAY_VALUES, deep, each_false, each_true, error_in_all_forms, in_all_forms, listed,
)

ONE = (("a", "number"),)


class IsTable(unittest.TestCase):
    def test_examples(self):
        self.assertIs(is_table(SHOP), True)
        self.assertIs(is_table(((("a", "number"),), ())), True)
        self.assertIs(is_table(((("a", "number"), ("a", "text")), ())), False)

    def test_tables(self):
        each_true(self, is_table, [
            SHOP,
            NO_ROWS,
            (ONE, ((0, (None,)),)),
            (ONE, ((0, (0,)), (1, (-1,)), (7, (None,)))),
            ((("a", "text"),), ((0, ("",)), (999, (None,)))),
            ((("abcdefgh", "text"), ("z", "number")), ((3, (None, None)),)),
            ((("a", "text"), ("b", "text")), ((3, ("x", "x")), (4, ("x", "x")))),
        ])

    def test_bounds_do_not_count(self):
        many_columns = tuple((letter, "number") for letter in "abcdefghijklmnopqrstuvwxyz")
        each_true(self, is_table, [
            (ONE, ((10 ** 30, (10 ** 30,)),)),
            (ONE, tuple((number, (number,)) for number in range(300))),
            (many_columns, ((0, tuple(range(26))),)),
            ((("a", "text"),), ((0, ("100 % more than twelve characters\n",)),)),
        ])

    def test_stray_values(self):
        each_false(self, is_table, STRAY_VALUES + [deep(16), listed(deep(16))])

    def test_lists_are_no_tuples(self):
        each_false(self, is_table, [
            listed(SHOP),
            list(SHOP),
            (list(COLUMNS), SHOP[1]),
            (COLUMNS, list(SHOP[1])),
            (COLUMNS, []),
            ([], ()),
            ((["a", "number"],), ()),
            (ONE, ([0, (1,)],)),
            (ONE, ((0, [1]),)),
        ])

    def test_wrong_columns(self):
        for columns in [
            (), None, "a", ("a",), ("ab",), (("a",),), (("a", "number", 1),), (("a", "Number"),), (("a", None),),
            (("a", True),), (("", "number"),), (("abcdefghi", "number"),), (("A", "number"),), (("a1", "number"),),
            (("a b", "number"),), (("a_", "number"),), (("\u00e4", "number"),), ((1, "number"),), ((None, "text"),),
            ((True, "text"),), ((("a",), "text"),), (("a", ("number",)),), (("`", "text"),), (("{", "text"),),
            (("b", "text"), ("a", "text"), ("b", "number")), (("b", "text"), None), ((["a"], "text"), ("a", "text")),
        ]:
            with self.subTest(columns=columns):
                self.assertIs(is_table((columns, ())), False)

    def test_wrong_rows(self):
        for rows in [
            None, 0, "", "ab", (1,), (None,), ((),), ((0,),), ((0, (1,), 2),), ((0, 1),), ((0, None),), ((0, "1"),),
            ((-1, (1,)),), ((True, (1,)),), ((False, (1,)),), ((None, (1,)),), (("0", (1,)),), (((), (1,)),),
            ((0, ()),), ((0, (1, 1)),), ((0, (True,)),), ((0, (False,)),), ((0, ("1",)),), ((0, ((),)),),
            ((0, ([],)),), ((0, ((1, 2),)),), ((1, (1,)), (0, (1,))), ((1, (1,)), (1, (1,))),
            ((1, (1,)), (1, (2,))), ((0, (1,)), (2, (1,)), (1, (1,))), ((0, (1,)), None), ((0, (1,)), ("1", (1,))),
        ]:
            with self.subTest(rows=rows):
                self.assertIs(is_table((ONE, rows)), False)

    def test_wrong_number_of_parts(self):
        each_false(self, is_table, [(ONE,), (ONE, (), ()), (ONE, (), None), ((), ONE)])

    def test_texts_hold_no_numbers(self):
        for cell in (0, 1, True, False, (), ("a",), ["a"]):
            with self.subTest(cell=cell):
                self.assertIs(is_table(((("a", "text"),), ((0, (cell,)),))), False)


class Reading(unittest.TestCase):
    def test_examples(self):
        self.assertEqual(in_all_forms(self, column_of, table=SHOP, name="price"), 1)
        self.assertEqual(in_all_forms(self, cells_of, table=SHOP, number=4), ("tea", 5, None))

    def test_column_of(self):
        self.assertEqual([column_of(SHOP, name) for name in ("kind", "price", "day")], [0, 1, 2])
        self.assertEqual(in_all_forms(self, column_of, table=NO_ROWS, name="day"), 2)
        self.assertEqual(in_all_forms(self, column_of, table=(ONE, ()), name="a"), 0)

    def test_no_column(self):
        for name in ("a", "", "prices", "Kind", "tea"):
            error_in_all_forms(self, NoColumn, {"name": name}, column_of, table=SHOP, name=name)

    def test_cells_of(self):
        table = ((("a", "number"), ("b", "text")), ((0, (None, None)), (3, (0, "")), (40, (-5, "x"))))
        self.assertEqual(in_all_forms(self, cells_of, table=table, number=0), (None, None))
        self.assertEqual(in_all_forms(self, cells_of, table=table, number=3), (0, ""))
        self.assertEqual(in_all_forms(self, cells_of, table=table, number=40), (-5, "x"))

    def test_no_row(self):
        for number in (0, 6, 10 ** 20):
            error_in_all_forms(self, NoRow, {"number": number}, cells_of, table=SHOP, number=number)
        error_in_all_forms(self, NoRow, {"number": 0}, cells_of, table=NO_ROWS, number=0)


class Added(unittest.TestCase):
    def test_example(self):
        error_in_all_forms(self, Taken, {"number": 3}, added, table=SHOP, number=3, cells=("tea", 1, 1))

    def test_ahead_between_and_behind(self):
        cells = ("salt", None, 7)
        rows = SHOP[1]
        self.assertEqual(
            in_all_forms(self, added, table=SHOP, number=0, cells=cells), (COLUMNS, ((0, cells), *rows)))
        self.assertEqual(
            in_all_forms(self, added, table=SHOP, number=10 ** 20, cells=cells),
            (COLUMNS, (*rows, (10 ** 20, cells))))
        gap = (COLUMNS, (rows[0], rows[4]))
        self.assertEqual(
            in_all_forms(self, added, table=gap, number=4, cells=cells), (COLUMNS, (rows[0], (4, cells), rows[4])))

    def test_no_rows_and_no_values(self):
        nothing = (None, None, None)
        self.assertEqual(
            in_all_forms(self, added, table=NO_ROWS, number=0, cells=nothing), (COLUMNS, ((0, nothing),)))

    def test_equal_cells_are_another_row(self):
        table = added(SHOP, 9, ("tea", 3, 1))
        self.assertEqual(table[1][-1], (9, ("tea", 3, 1)))
        self.assertEqual(len(table[1]), 6)

    def test_answer_is_a_table(self):
        self.assertIs(is_table(added(listed(SHOP), 0, ["tea", 1, 1])), True)

    def test_bad_cells(self):
        for cells in [
            (), ("tea",), ("tea", 1), ("tea", 1, 1, 1), ("tea", "1", 1), (1, 1, 1), ("tea", 1, "x"), (None, "", None),
            ("tea", True, 1), (False, 1, 1), (None,) * 40,
        ]:
            with self.subTest(cells=cells):
                error_in_all_forms(self, BadCells, {"cells": cells}, added, table=SHOP, number=6, cells=cells)

    def test_taken_comes_first(self):
        error_in_all_forms(self, Taken, {"number": 1}, added, table=SHOP, number=1, cells=())
        error_in_all_forms(self, Taken, {"number": 5}, added, table=SHOP, number=5, cells=("tea", "1", 1))


class Changed(unittest.TestCase):
    def test_example(self):
        cells = ("tea", "1", 1)
        error_in_all_forms(self, BadCells, {"cells": cells}, changed, table=SHOP, number=3, cells=cells)

    def test_each_row(self):
        cells = ("salt", None, 7)
        for index, (number, _) in enumerate(SHOP[1]):
            wanted = (COLUMNS, (*SHOP[1][:index], (number, cells), *SHOP[1][index + 1:]))
            self.assertEqual(in_all_forms(self, changed, table=SHOP, number=number, cells=cells), wanted)

    def test_same_cells(self):
        self.assertEqual(in_all_forms(self, changed, table=SHOP, number=4, cells=("tea", 5, None)), SHOP)

    def test_row_number_zero(self):
        table = (ONE, ((0, (1,)),))
        self.assertEqual(in_all_forms(self, changed, table=table, number=0, cells=(None,)), (ONE, ((0, (None,)),)))

    def test_bad_cells(self):
        for cells in [(), ("tea",), ("tea", 1, 1, 1), (1, 1, 1), ("tea", False, 1)]:
            error_in_all_forms(self, BadCells, {"cells": cells}, changed, table=SHOP, number=5, cells=cells)

    def test_no_row_comes_first(self):
        error_in_all_forms(self, NoRow, {"number": 0}, changed, table=SHOP, number=0, cells=("tea", 1, 1))
        error_in_all_forms(self, NoRow, {"number": 6}, changed, table=SHOP, number=6, cells=("tea", "1", 1))
        error_in_all_forms(self, NoRow, {"number": 1}, changed, table=NO_ROWS, number=1, cells=())


class Deleted(unittest.TestCase):
    def test_example(self):
        self.assertEqual(in_all_forms(self, deleted, table=SHOP, number=2)[1][1], (3, ("rice", 2, 1)))

    def test_each_row(self):
        for index, (number, _) in enumerate(SHOP[1]):
            wanted = (COLUMNS, SHOP[1][:index] + SHOP[1][index + 1:])
            self.assertEqual(in_all_forms(self, deleted, table=SHOP, number=number), wanted)

    def test_only_row(self):
        self.assertEqual(in_all_forms(self, deleted, table=(ONE, ((0, (None,)),)), number=0), (ONE, ()))

    def test_no_row(self):
        for number in (0, 6, 10 ** 20):
            error_in_all_forms(self, NoRow, {"number": number}, deleted, table=SHOP, number=number)
        error_in_all_forms(self, NoRow, {"number": 0}, deleted, table=NO_ROWS, number=0)


class Results(unittest.TestCase):
    def test_later_changes_of_the_arguments_have_no_effect(self):
        table, cells = listed(SHOP), ["salt", 1, 1]
        more, read = added(table, 9, cells), cells_of(table, 1)
        table[1][0][1][0] = "gone"
        cells[0] = "gone"
        self.assertEqual(more, (COLUMNS, (*SHOP[1], (9, ("salt", 1, 1)))))
        self.assertEqual(read, ("tea", 3, 1))

    def test_returned_tables_may_be_passed_in_again(self):
        table = NO_ROWS
        for number in range(60, 0, -1):
            table = added(table, number, ("tea", number, None))
        self.assertEqual([row[0] for row in table[1]], list(range(1, 61)))
        for number in range(1, 61, 2):
            table = deleted(table, number)
        self.assertEqual([row[0] for row in table[1]], list(range(2, 61, 2)))
        self.assertIs(is_table(table), True)


if __name__ == "__main__":
    unittest.main()
