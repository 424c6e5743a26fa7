"""Promises 2 and 6: orders, and the rows of a table put in one."""

import itertools
import unittest

from overrows.orders import is_order, ordered
from tests.samples import COLUMNS, NO_ROWS, SHOP, STRAY_VALUES, deep, each_false, each_true, in_all_forms, listed

WAYS = [(way, nulls) for way in ("up", "down") for nulls in ("first", "last")]


def is_ahead_in(item, one, other):
    """Whether a cell is ahead of another one by an item, as the document words it."""
    _, way, nulls = item
    if one is None or other is None:
        if one is None and other is None:
            return False
        return (one is None) == (nulls == "first")
    return one < other if way == "up" else one > other


def stands_ahead(table, order, one, other):
    """Whether row one stands ahead of row other in the order, judged item by item."""
    names = [name for name, _ in table[0]]
    for item in order:
        at = names.index(item[0])
        if is_ahead_in(item, one[1][at], other[1][at]):
            return True
        if is_ahead_in(item, other[1][at], one[1][at]):
            return False
    return one[0] < other[0]


class IsOrder(unittest.TestCase):
    def test_orders(self):
        each_true(self, is_order, [
            (),
            (("price", "down", "last"),),
            (("kind", "up", "first"), ("day", "down", "last")),
            (("day", "up", "last"), ("day", "up", "last"), ("day", "down", "first")),
            tuple((name, way, nulls) for name, _ in COLUMNS for way, nulls in WAYS),
        ], columns=COLUMNS)
        self.assertIs(is_order((), ()), True)

    def test_stray_values(self):
        stray = [thing for thing in STRAY_VALUES if thing != () or isinstance(thing, list)]
        each_false(self, is_order, stray + [deep(16), listed(deep(16))], columns=COLUMNS)

    def test_wrong_orders(self):
        each_false(self, is_order, [
            [("price", "up", "last")],
            (["price", "up", "last"],),
            ("price", "up", "last"),
            (("price", "up"),),
            (("price", "up", "last", "last"),),
            (("prices", "up", "last"),),
            (("price", "UP", "last"),),
            (("price", "last", "up"),),
            (("price", "up", "none"),),
            (("price", None, "last"),),
            (("price", "up", None),),
            (("price", True, False),),
            ((1, "up", "last"),),
            ((None, "up", "last"),),
            ((("price",), "up", "last"),),
            (("price", ("up",), "last"),),
            (("price", "up", ["last"]),),
            (("price", "up", "last"), None),
            (("price", "up", "last"), ("day", "up")),
            ((("price", "number"), "up", "last"),),
            ("pul",),
        ], columns=COLUMNS)

    def test_no_columns_of_another_table(self):
        self.assertIs(is_order((("a", "text"),), (("price", "up", "last"),)), False)
        self.assertIs(is_order((), (("price", "up", "last"),)), False)


class Ordered(unittest.TestCase):
    def test_examples(self):
        self.assertEqual(in_all_forms(self, ordered, table=SHOP, order=(("price", "down", "last"),)), [4, 2, 1, 3, 5])
        order = (("day", "down", "first"), ("price", "up", "last"))
        self.assertEqual(in_all_forms(self, ordered, table=SHOP, order=order), [4, 5, 2, 3, 1])

    def test_no_rows(self):
        self.assertEqual(in_all_forms(self, ordered, table=NO_ROWS, order=()), [])
        self.assertEqual(in_all_forms(self, ordered, table=NO_ROWS, order=(("day", "up", "first"),)), [])

    def test_no_items_mean_row_numbers(self):
        self.assertEqual(in_all_forms(self, ordered, table=SHOP, order=()), [1, 2, 3, 4, 5])

    def test_ways_and_nulls(self):
        table = ((("a", "number"),), ((0, (2,)), (1, (None,)), (2, (-3,)), (3, (2,)), (4, (None,)), (5, (0,))))
        wanted = {
            ("up", "first"): [1, 4, 2, 5, 0, 3],
            ("up", "last"): [2, 5, 0, 3, 1, 4],
            ("down", "first"): [1, 4, 0, 3, 5, 2],
            ("down", "last"): [0, 3, 5, 2, 1, 4],
        }
        for (way, nulls), numbers in wanted.items():
            self.assertEqual(in_all_forms(self, ordered, table=table, order=(("a", way, nulls),)), numbers)

    def test_texts_by_pythons_order(self):
        cells = ["b", "", "a", "B", "ab", "~", " ", None, "a"]
        table = ((("t", "text"),), tuple((number, (cell,)) for number, cell in enumerate(cells)))
        self.assertEqual(ordered(table, (("t", "up", "last"),)), [1, 6, 3, 2, 8, 4, 0, 5, 7])
        self.assertEqual(ordered(table, (("t", "down", "first"),)), [7, 5, 0, 4, 2, 8, 3, 6, 1])

    def test_equal_rows_by_row_numbers_also_downwards(self):
        table = ((("a", "number"),), tuple((number, (cell,)) for number, cell in [(0, 1), (5, 1), (7, 1), (9, None)]))
        for way, nulls in WAYS:
            numbers = ordered(table, (("a", way, nulls),))
            self.assertEqual([number for number in numbers if number != 9], [0, 5, 7])

    def test_only_nulls(self):
        table = ((("a", "number"), ("b", "text")), tuple((number, (None, None)) for number in (0, 1, 2)))
        for (way, nulls), (second_way, second_nulls) in itertools.product(WAYS, WAYS):
            order = (("b", way, nulls), ("a", second_way, second_nulls))
            self.assertEqual(in_all_forms(self, ordered, table=table, order=order), [0, 1, 2])

    def test_large_numbers(self):
        cells = [10 ** 12, -10 ** 12, 10 ** 12 - 1, None]
        table = ((("a", "number"),), tuple((number, (cell,)) for number, cell in enumerate(cells)))
        self.assertEqual(ordered(table, (("a", "up", "first"),)), [3, 1, 2, 0])

    def test_column_that_comes_again_changes_nothing(self):
        for way, nulls in WAYS:
            order = (("day", "down", "first"), ("day", way, nulls), ("price", "up", "last"))
            self.assertEqual(in_all_forms(self, ordered, table=SHOP, order=order), [4, 5, 2, 3, 1])

    def test_all_small_tables_by_comparing_two_rows(self):
        columns = (("a", "number"), ("b", "text"))
        cells = list(itertools.product((None, -1, 2), (None, "x", "y")))
        orders = [()]
        for first in WAYS:
            orders.append((("a", *first),))
            for second in WAYS:
                orders.append((("b", *first), ("a", *second)))
        table = (columns, tuple(enumerate(cells + list(reversed(cells)))))
        for order in orders:
            numbers = ordered(table, order)
            self.assertEqual(sorted(numbers), list(range(18)))
            rows = dict(table[1])
            for one, other in itertools.combinations(numbers, 2):
                self.assertTrue(stands_ahead(table, order, (one, rows[one]), (other, rows[other])))

    def test_every_answer_is_a_new_list(self):
        first = ordered(SHOP, ())
        first.append(9)
        self.assertEqual(ordered(SHOP, ()), [1, 2, 3, 4, 5])


if __name__ == "__main__":
    unittest.main()
