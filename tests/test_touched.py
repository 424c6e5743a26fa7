"""Promise 15: touches, the figures whose look a change of the table changes."""

import random
import unittest

from overrows.tables import changed, deleted
from overrows.touched import touched
from tests import making
from tests.samples import ALL_SO_FAR, NO_ROWS, RUNNING, SHOP, in_all_forms, listed, strict
from tests.words import holds, look_of

TOTAL = ("total", "sum", ("price",), None, ALL_SO_FAR)
PLACE = ("place", "row", (), None, ((), (("price", "up", "last"),), RUNNING))
TEA = ("compare", ("column", "kind"), "=", ("plain", "tea"))


def touches_in_words(table, later, query):
    """The TOUCHes by the words of the document."""
    where, figures, _, _ = query
    left = []
    for columns, rows in (table, later):
        left.append((columns, tuple(row for row in rows if where is None or holds(columns, where, row[1]) is True)))
    early, late = [{number for number, _ in rows} for _, rows in left]
    found = []
    for figure in figures:
        for number in sorted(early | late):
            if number not in early:
                found.append((number, figure[0], "new"))
            elif number not in late:
                found.append((number, figure[0], "gone"))
            elif look_of(left[0], figure, number) != look_of(left[1], figure, number):
                found.append((number, figure[0], "look"))
    return sorted(found)


class Touched(unittest.TestCase):
    def check(self, table, later, query, wanted):
        found = in_all_forms(self, touched, table=table, later=later, query=query)
        self.assertEqual(strict(found), strict(wanted))

    def test_looks_that_differ(self):
        query = (None, (TOTAL, PLACE), None, ())
        later = changed(SHOP, 3, ("rice", 7, 1))
        self.check(SHOP, later, query, [
            (1, "place", "look"), (2, "place", "look"), (3, "place", "look"), (3, "total", "look"),
            (4, "place", "look"), (5, "place", "look"), (5, "total", "look"),
        ])
        self.check(later, SHOP, query, touched(SHOP, later, query))

    def test_the_look_counts_and_not_the_value(self):
        both = changed(changed(SHOP, 1, ("tea", 4, 1)), 2, ("tea", 3, 2))
        self.check(SHOP, both, (None, (TOTAL,), None, ()), [(number, "total", "look") for number in (1, 2, 4)])
        most = ("most", "most", ("price",), None, ALL_SO_FAR)
        self.check(SHOP, changed(SHOP, 1, ("tea", 1, 1)), (None, (most,), None, ()),
                   [(number, "most", "look") for number in (1, 2, 4)])

    def test_new_and_gone_rows(self):
        query = (None, (TOTAL,), None, ())
        self.check(SHOP, deleted(SHOP, 4), query, [(4, "total", "gone")])
        self.check(deleted(SHOP, 4), SHOP, query, [(4, "total", "new")])
        self.check(SHOP, NO_ROWS, query, [(number, "total", "gone") for number in range(1, 6)])
        self.check(NO_ROWS, SHOP, query, [(number, "total", "new") for number in range(1, 6)])

    def test_rows_that_where_keeps_in_one_table_only(self):
        query = (TEA, (TOTAL,), ("null", ("column", "day")), ())
        later = changed(changed(SHOP, 3, ("tea", 1, 1)), 1, (None, 3, 1))
        self.check(SHOP, later, query, [(1, "total", "gone"), (2, "total", "look"), (3, "total", "new"),
                                        (4, "total", "look")])
        self.check(later, SHOP, query, [(1, "total", "new"), (2, "total", "look"), (3, "total", "gone"),
                                        (4, "total", "look")])

    def test_cells_that_no_look_reads(self):
        self.check(SHOP, changed(SHOP, 4, ("tea", 5, 9)), (None, (TOTAL,), ("null", ("column", "day")), ()), [])
        self.check(SHOP, changed(SHOP, 5, ("salt", 2, 2)), (TEA, (TOTAL, PLACE), None, ()), [])

    def test_equal_tables_and_no_figures(self):
        self.check(SHOP, SHOP, (None, (TOTAL, PLACE), None, ()), [])
        self.check(SHOP, NO_ROWS, (None, (), None, ()), [])
        self.check(NO_ROWS, NO_ROWS, (None, (TOTAL,), None, ()), [])

    def test_made_tables(self):
        luck = random.Random(151)
        for _ in range(150):
            query = making.query(luck, luck.choice((0, 1, 3)))
            table, later = making.table(luck, luck.randrange(9)), making.table(luck, luck.randrange(9))
            found = touched(table, later, query)
            self.assertEqual(found, touches_in_words(table, later, query))
            turned_round = [(number, name, {"new": "gone", "gone": "new", "look": "look"}[reason])
                            for number, name, reason in found]
            self.assertEqual(touched(later, table, query), sorted(turned_round))
            self.assertEqual(touched(table, table, query), [])

    def test_every_answer_is_a_new_list(self):
        query = (None, (TOTAL,), None, ())
        found = touched(SHOP, listed(NO_ROWS), query)
        found.clear()
        self.assertEqual(len(touched(SHOP, NO_ROWS, query)), 5)


if __name__ == "__main__":
    unittest.main()
