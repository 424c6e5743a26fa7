"""Promises 2 and 6: windows, and the partitions and peer groups that they make of a table."""

import itertools
import unittest

from overrows.errors import NoRow
from overrows.parts import is_ahead, is_window, partition_of, partitions, peers
from tests.samples import (
    ALL_SO_FAR, COLUMNS, NO_ROWS, RUNNING, SHOP, STRAY_VALUES, deep, each_false, each_true, error_in_all_forms,
    in_all_forms, listed,
)

WAYS = [(way, nulls) for way in ("up", "down") for nulls in ("first", "last")]
BY_DAY = (("day", "up", "last"),)
LAST_DAYS = ("range", ("before", 1), ("here",), "nobody")
MIXED = (
    (("p", "text"), ("q", "number"), ("a", "number"), ("t", "text")),
    (
        (0, ("x", 1, 3, None)),
        (2, (None, 1, None, "b")),
        (3, ("x", 1, None, "a")),
        (4, (None, 1, 5, "b")),
        (7, ("x", None, 3, "b")),
        (8, ("x", 1, 1, "")),
        (9, ("x", None, 3, "b")),
        (12, ("", 1, 3, "a")),
        (13, ("x", 1, 3, None)),
    ),
)


def partition_in_words(table, window, number):
    """The rows that are alike with a row in all columns of the parts, by ROW NUMBERs."""
    names = [name for name, _ in table[0]]
    rows = dict(table[1])
    return [other for other in rows
            if all(rows[other][names.index(part)] == rows[number][names.index(part)] for part in window[0])]


def stands(table, order, one, other):
    """-1, 0 or 1: row one stands ahead of row other in an order, is equal to it, or stands behind it."""
    names = [name for name, _ in table[0]]
    rows = dict(table[1])
    for name, way, nulls in order:
        at = names.index(name)
        cell, other_cell = rows[one][at], rows[other][at]
        if cell == other_cell:
            continue
        if cell is None or other_cell is None:
            return -1 if (cell is None) == (nulls == "first") else 1
        return -1 if (cell < other_cell) == (way == "up") else 1
    return 0


def many_windows():
    orders = [(), BY_DAY[:0]]
    for first in WAYS:
        orders.append((("a", *first),))
        for second in WAYS:
            orders.append((("t", *first), ("a", *second)))
    all_parts = [(), ("p",), ("q",), ("p", "q"), ("t", "p", "a", "q")]
    return [(parts, order, RUNNING) for parts in all_parts for order in orders]


class IsWindow(unittest.TestCase):
    def test_windows(self):
        each_true(self, is_window, [
            ALL_SO_FAR,
            ((), (), RUNNING),
            (("day", "kind", "price"), (), ("rows", ("after", 3), ("before", 2), "ties")),
            (("kind",), BY_DAY, LAST_DAYS),
            (("day",), BY_DAY, LAST_DAYS),
            ((), (("kind", "up", "last"),), ("range", ("start",), ("here",), "group")),
            ((), (("kind", "up", "last"),), ("groups", ("before", 1), ("here",), "row")),
            ((), (), ("groups", ("before", 1), ("after", 1), "row")),
            ((), BY_DAY + BY_DAY, RUNNING),
        ], columns=COLUMNS)
        self.assertIs(is_window((), ((), (), RUNNING)), True)

    def test_stray_values(self):
        each_false(self, is_window, STRAY_VALUES + [deep(16), listed(deep(16))], columns=COLUMNS)

    def test_wrong_parts(self):
        for parts in [
            None, "kind", "", [], ["kind"], ("kinds",), ("",), (None,), (1,), (True,), (("kind",),), (["kind"],),
            (("kind", "text"),), ("kind", "kind"), ("kind", "day", "kind"), ("kind", None), ((), ()),
            (["kind"], ["kind"]),
        ]:
            with self.subTest(parts=parts):
                self.assertIs(is_window(COLUMNS, (parts, BY_DAY, RUNNING)), False)

    def test_wrong_orders_and_frames(self):
        for order in [None, [], list(BY_DAY), "day", ("day",), (("day", "up"),), (("days", "up", "last"),), BY_DAY[0]]:
            with self.subTest(order=order):
                self.assertIs(is_window(COLUMNS, (("kind",), order, RUNNING)), False)
        for frame in [None, (), "rows", list(RUNNING), listed(RUNNING), RUNNING[:3],
                      ("rows", ("end",), ("here",), "nobody"), ("rows", ("start",), ("before", True), "nobody")]:
            with self.subTest(frame=frame):
                self.assertIs(is_window(COLUMNS, (("kind",), BY_DAY, frame)), False)

    def test_frame_must_fit_the_order(self):
        each_false(self, is_window, [
            (("kind",), (), LAST_DAYS),
            (("kind",), (("kind", "up", "last"),), LAST_DAYS),
            (("kind",), BY_DAY + (("price", "up", "last"),), LAST_DAYS),
            (("kind",), BY_DAY + BY_DAY, LAST_DAYS),
            ((), (), ("range", ("start",), ("after", 0), "nobody")),
        ], columns=COLUMNS)

    def test_wrong_shapes(self):
        each_false(self, is_window, [
            listed(ALL_SO_FAR), list(ALL_SO_FAR), ALL_SO_FAR[:2], ALL_SO_FAR + (None,), (ALL_SO_FAR,),
            (BY_DAY, ("kind",), RUNNING),
        ], columns=COLUMNS)

    def test_columns_of_another_table(self):
        self.assertIs(is_window((("kind", "text"),), ALL_SO_FAR), False)
        self.assertIs(is_window((("day", "number"),), ALL_SO_FAR), False)
        self.assertIs(is_window((("kind", "text"), ("day", "text")), (("kind",), BY_DAY, LAST_DAYS)), False)


class Partitions(unittest.TestCase):
    def test_examples(self):
        self.assertEqual(in_all_forms(self, partitions, table=SHOP, window=ALL_SO_FAR), [(1, 2, 4), (3, 5)])
        self.assertEqual(in_all_forms(self, peers, table=SHOP, window=((),) + ALL_SO_FAR[1:], number=3), (1, 3))

    def test_no_rows(self):
        for window in (ALL_SO_FAR, ((), (), RUNNING)):
            self.assertEqual(in_all_forms(self, partitions, table=NO_ROWS, window=window), [])

    def test_no_parts_and_no_order(self):
        self.assertEqual(in_all_forms(self, partitions, table=SHOP, window=((), (), RUNNING)), [(1, 2, 3, 4, 5)])
        window = ((), (("price", "down", "last"),), RUNNING)
        self.assertEqual(in_all_forms(self, partitions, table=SHOP, window=window), [(4, 2, 1, 3, 5)])
        self.assertEqual(
            in_all_forms(self, partitions, table=SHOP, window=(("kind",), (), RUNNING)), [(1, 2, 4), (3, 5)])

    def test_by_their_least_row_numbers(self):
        window = (("kind",), (("price", "up", "last"),), RUNNING)
        table = (COLUMNS, ((0, ("x", 9, 1)), (1, ("y", 1, 1)), (2, ("x", 0, 1)), (3, ("a", 5, 1)), (4, ("y", 0, 1))))
        self.assertEqual(in_all_forms(self, partitions, table=table, window=window), [(2, 0), (4, 1), (3,)])

    def test_partitions_of_one_row(self):
        window = (("kind", "price", "day"), BY_DAY, RUNNING)
        self.assertEqual(in_all_forms(self, partitions, table=SHOP, window=window), [(1,), (2,), (3,), (4,), (5,)])
        self.assertEqual(in_all_forms(self, partition_of, table=SHOP, window=window, number=4), (4,))
        self.assertEqual(in_all_forms(self, peers, table=SHOP, window=window, number=4), (4,))

    def test_none_is_like_none(self):
        window = (("p",), (("a", "up", "first"),), RUNNING)
        wanted = [(3, 8, 0, 7, 9, 13), (2, 4), (12,)]
        self.assertEqual(in_all_forms(self, partitions, table=MIXED, window=window), wanted)
        window = (("q", "p"), (("a", "down", "last"),), RUNNING)
        wanted = [(0, 13, 8, 3), (4, 2), (7, 9), (12,)]
        self.assertEqual(in_all_forms(self, partitions, table=MIXED, window=window), wanted)
        self.assertEqual(in_all_forms(self, partition_of, table=MIXED, window=window, number=2), (4, 2))

    def test_many_windows_by_comparing_two_rows(self):
        numbers = [number for number, _ in MIXED[1]]
        for window in many_windows():
            found = partitions(MIXED, window)
            self.assertEqual(sorted(number for each in found for number in each), numbers)
            self.assertEqual([min(each) for each in found], sorted(min(each) for each in found))
            for number in numbers:
                own = partition_of(MIXED, window, number)
                self.assertIn(own, found)
                self.assertEqual(sorted(own), partition_in_words(MIXED, window, number))
                for one, other in zip(own, own[1:]):
                    self.assertLess((stands(MIXED, window[1], one, other), one), (0, other))
                alike = tuple(other for other in own if stands(MIXED, window[1], number, other) == 0)
                self.assertEqual(peers(MIXED, window, number), alike)

    def test_every_answer_is_a_new_list(self):
        partitions(SHOP, ALL_SO_FAR).clear()
        self.assertEqual(partitions(SHOP, ALL_SO_FAR), [(1, 2, 4), (3, 5)])


class Peers(unittest.TestCase):
    def test_without_an_order_all_are(self):
        self.assertEqual(in_all_forms(self, peers, table=SHOP, window=(("kind",), (), RUNNING), number=4), (1, 2, 4))
        self.assertEqual(in_all_forms(self, peers, table=SHOP, window=((), (), RUNNING), number=4), (1, 2, 3, 4, 5))

    def test_within_the_partition_only(self):
        for number in (1, 3):
            self.assertEqual(in_all_forms(self, peers, table=SHOP, window=ALL_SO_FAR, number=number), (number,))

    def test_rows_without_a_value(self):
        for way, nulls in WAYS:
            window = ((), (("q", way, nulls), ("t", "up", "last")), RUNNING)
            self.assertEqual(in_all_forms(self, peers, table=MIXED, window=window, number=9), (7, 9))
            window = (("q",), (("a", way, nulls),), RUNNING)
            self.assertEqual(in_all_forms(self, peers, table=MIXED, window=window, number=3), (2, 3))

    def test_no_row(self):
        for function in (partition_of, peers):
            for number in (0, 6, 10 ** 20):
                error_in_all_forms(
                    self, NoRow, {"number": number}, function, table=SHOP, window=ALL_SO_FAR, number=number)
            error_in_all_forms(
                self, NoRow, {"number": 0}, function, table=NO_ROWS, window=((), (), RUNNING), number=0)


class IsAhead(unittest.TestCase):
    def test_examples(self):
        self.assertIs(in_all_forms(self, is_ahead, table=SHOP, window=ALL_SO_FAR, one=2, other=4), True)
        self.assertIs(in_all_forms(self, is_ahead, table=SHOP, window=ALL_SO_FAR, one=1, other=5), False)

    def test_not_of_itself(self):
        for number in (1, 2, 3, 4, 5):
            self.assertIs(in_all_forms(self, is_ahead, table=SHOP, window=ALL_SO_FAR, one=number, other=number), False)

    def test_peers_by_row_numbers(self):
        for way, nulls in WAYS:
            window = (("p", "q"), (("a", way, nulls),), RUNNING)
            self.assertIs(in_all_forms(self, is_ahead, table=MIXED, window=window, one=0, other=13), True)
            self.assertIs(in_all_forms(self, is_ahead, table=MIXED, window=window, one=13, other=0), False)

    def test_many_windows_by_comparing_two_rows(self):
        numbers = [number for number, _ in MIXED[1]]
        for window in many_windows():
            for one, other in itertools.product(numbers, numbers):
                together = other in partition_in_words(MIXED, window, one)
                wanted = together and (stands(MIXED, window[1], one, other), one) < (0, other)
                self.assertIs(is_ahead(MIXED, window, one, other), wanted)

    def test_no_row_for_one_then_for_other(self):
        for one, other, missing in [(0, 1, 0), (1, 0, 0), (6, 7, 6), (7, 6, 7), (6, 6, 6), (3, 9, 9), (9, 3, 9)]:
            error_in_all_forms(
                self, NoRow, {"number": missing}, is_ahead, table=SHOP, window=ALL_SO_FAR, one=one, other=other)
        error_in_all_forms(
            self, NoRow, {"number": 8}, is_ahead, table=NO_ROWS, window=((), (), RUNNING), one=8, other=2)


if __name__ == "__main__":
    unittest.main()
