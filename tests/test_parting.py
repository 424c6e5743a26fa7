"""Promises 1 (b) and 13: smallest tables that part what a filter would change."""

import random
import unittest

from overrows.errors import NotFree, NotSimple
from overrows.parting import parting, shows_parting
from overrows.passing import may_pass
from overrows.plain import figures
from overrows.tables import is_table
from tests import searching
from tests.samples import (
    COLUMNS, NO_ROWS, RUNNING, SHOP, STRAY_VALUES, deep, each_false, each_true, error_in_all_forms, in_all_forms,
    listed, one_part_more_or_less, one_part_replaced,
)
from tests.test_passing import (
    DAY, KIND, LATE, NOT_NULL, NULL, NUMBERS, OVER, PLACED, PRICE, TOTAL, UPTO, bound, frame, nth, order, sign,
)
from tests.words import figures_of, holds


def rows_of(call, condition, window_order, asked=RUNNING, parts=()):
    """How many rows the parting TABLE of a FIGURE with this CALL and WINDOW has, which is tried out here."""
    figure = ("f", *call, None, (parts, window_order, asked))
    found = parting(NUMBERS, (figure,), condition)
    if found is None:
        return None
    assert is_table(found) and found[0] == NUMBERS, found
    left = (NUMBERS, tuple(row for row in found[1] if holds(NUMBERS, condition, row[1]) is True))
    query = (None, (figure,), None, ())
    # For small tables the definition of the tests, which is slow, tells the figures.
    told = figures_of if len(found[1]) < 12 else figures
    among_all = dict(told(found, query))
    assert any(among_all[number] != values for number, values in told(left, query)), found
    assert shows_parting(NUMBERS, (figure,), condition, found), found
    return len(found[1])


class Sizes(unittest.TestCase):
    def test_ranks(self):
        for function in ("row", "rank", "dense", "percent", "share"):
            self.assertEqual(rows_of((function, ()), sign("<>"), order("d")), 2)
        self.assertEqual(rows_of(("row", ()), sign("="), order()), 2)
        self.assertEqual(rows_of(("percent", ()), sign("<="), order("c")), 3)
        self.assertEqual(rows_of(("percent", ()), NOT_NULL, order("c")), 3)
        self.assertEqual(rows_of(("percent", ()), NULL, order("*c", "d")), 3)
        self.assertEqual(rows_of(("share", ()), sign("<="), order("c")), 2)
        self.assertEqual(rows_of(("share", ()), sign(">="), order("*c")), 3)
        self.assertEqual(rows_of(("share", ()), NULL, order("c", "-d")), 3)

    def test_tiles(self):
        for number in (2, 3, 17, 50):
            self.assertEqual(rows_of(("tile", (number,)), sign("<>"), order("d")), 2)
            self.assertEqual(rows_of(("tile", (number,)), sign("<="), order("c")), number + 1)
            self.assertEqual(rows_of(("tile", (number,)), NULL, order("*c")), number + 1)
        self.assertIsNone(rows_of(("tile", (1,)), sign("<>"), order("d")))

    def test_offsets(self):
        for nulls in ("counted", "passed"):
            for default in (None, 1, 2):
                for number in (1, 2, 50):
                    earlier, later = [(word, ("a", number, default, nulls)) for word in ("earlier", "later")]
                    for condition, one in ((sign("="), order()), (sign("<>"), order("d", "c"))):
                        self.assertEqual(rows_of(earlier, condition, one), number + 1)
                        self.assertEqual(rows_of(later, condition, one), number + 1)
                    self.assertEqual(rows_of(later, NOT_NULL, order("-c")), number + 1)
                    self.assertIsNone(rows_of(earlier, NOT_NULL, order("-c")))
        self.assertIsNone(rows_of(("later", ("a", 0, 7, "passed")), sign("="), order()))

    def test_sums(self):
        calls = [("count", ()), ("sum", ("a",)), ("mean", ("a",)), ("least", ("a",)), ("most", ("a",)),
                 ("count", ("a", "unlike")), ("sum", ("a", "unlike")), ("mean", ("a", "unlike"))]
        for call in calls:
            for one, condition in ((order("d"), sign("=")), (order("c"), sign("<>")), (order("-c", "d"), sign("<>"))):
                self.assertEqual(rows_of(call, condition, one, frame("rows", -2, 2)), 2)
                self.assertEqual(rows_of(call, condition, one, frame("rows", -50, -49)), 50)
                self.assertEqual(rows_of(call, condition, one, frame("groups", -5, -3)), 4)
                self.assertEqual(rows_of(call, condition, one, frame("groups", 4, "end")), 5)
            for asked in (frame("range", -50, -49), frame("range", 40, "end", "ties"), frame("range", -1, 1, "group")):
                self.assertEqual(rows_of(call, sign("<>"), order("d"), asked), 2)
                self.assertEqual(rows_of(call, sign("<>"), order("c"), asked), 2)
            self.assertEqual(rows_of(call, sign("<>"), order("d"), frame("range", 2, 1)), 2)
            self.assertIsNone(rows_of(call, sign("<>"), order("c"), frame("range", 2, 1)))
        for function, arguments in (("joined", ("a",)), ("joined", ("a", "unlike")), ("least", ("a",)),
                                    ("most", ("a",))):
            figure = ("f", function, arguments, None, ((), order("c"), frame("groups", -3, -2)))
            self.assertEqual(len(parting(searching.TEXTS, (figure,), NULL)[1]), 3)
            figure = ("f", function, arguments, None, ((), order("*c"), frame("groups", -3, -2)))
            self.assertEqual(len(parting(searching.TEXTS, (figure,), NOT_NULL)[1]), 3)

    def test_groups_where_only_rows_without_a_value_are_lost(self):
        self.assertEqual(rows_of(("count", ()), NOT_NULL, order("*c"), frame("groups", -4, -3)), 4)
        self.assertEqual(rows_of(("count", ()), sign("<="), order("*c"), frame("groups", -4, -3)), 4)
        self.assertEqual(rows_of(nth(3), NOT_NULL, order("c"), frame("groups", 2, 2)), 5)

    def test_range_from_rows_without_a_value(self):
        self.assertEqual(rows_of(nth(2, "passed"), sign(">="), order("-d"), frame("range", "start", -3, "ties")), 2)
        self.assertEqual(rows_of(("count", ()), NULL, order("c"), frame("range", "start", -3)), 2)
        self.assertEqual(rows_of(("count", ()), NOT_NULL, order("*c"), frame("range", "start", -3)), 2)

    def test_chosen(self):
        for nulls in ("counted", "passed"):
            for number in (1, 2, 3, 50):
                call = nth(number, nulls)
                self.assertEqual(rows_of(call, sign("="), order("d")), max(number, 2))
                self.assertEqual(rows_of(call, sign("="), order("d"), frame("rows", "start", 0, "row")), number + 1)
                self.assertEqual(rows_of(call, sign("="), order("d"), frame("groups", -4, -3)), number + 3)
                self.assertEqual(rows_of(call, sign("="), order("d"), frame("range", 3, 4)), max(number, 2))
                self.assertEqual(rows_of(call, sign("<>"), order("c"), frame("range", 3, 4)), number + 1)
            for function in ("first", "last"):
                self.assertEqual(rows_of((function, ("a", nulls)), sign("="), order("d"), frame("rows", -1, 1)), 2)
                self.assertEqual(rows_of((function, ("a", nulls)), sign("="), order("d"), frame("rows", 3, 5)), 4)
        self.assertEqual(rows_of(("first", ("a", "passed")), sign("<="), order("c"), frame("rows", -1, 1)), 2)
        self.assertIsNone(rows_of(("first", ("a", "counted")), sign("<="), order("c"), frame("rows", -1, 1)))

    def test_frames_that_are_just_large_enough(self):
        self.assertEqual(rows_of(nth(51), sign("="), order("d"), frame("rows", -25, 25)), 51)
        self.assertEqual(rows_of(nth(51), sign("="), order(), frame("rows", -25, 25)), 51)
        self.assertEqual(rows_of(nth(51), sign(">="), order("c"), frame("rows", -25, 25)), 51)
        self.assertEqual(rows_of(nth(51), sign("<="), order("c"), frame("rows", -25, 25)), 51)
        self.assertEqual(rows_of(nth(50), sign("<="), order("c"), frame("rows", -25, 25, "group")), 51)
        self.assertEqual(rows_of(nth(26), NULL, order("c"), frame("rows", -25, 25, "ties")), 26)
        self.assertEqual(rows_of(nth(25), NULL, order("*c"), frame("rows", -25, 25, "group")), 26)
        self.assertEqual(rows_of(nth(2), sign("="), order("c"), frame("rows", -50, -49)), 51)


class Parting(unittest.TestCase):
    def test_examples(self):
        found = in_all_forms(self, parting, columns=COLUMNS, figures=(PLACED,), condition=OVER)
        self.assertEqual(len(found[1]), 2)
        self.assertTrue(is_table(found))
        self.assertIs(in_all_forms(self, shows_parting, columns=COLUMNS, figures=(PLACED,), condition=OVER,
                                   thing=SHOP), True)
        self.assertIsNone(in_all_forms(self, parting, columns=COLUMNS, figures=(PLACED,), condition=UPTO))

    def test_several_figures(self):
        tile = ("tile", "tile", (5,), None, ((), (("price", "up", "last"),), RUNNING))
        later = ("later", "later", ("day", 2, 1, "counted"), None, ((), (("price", "up", "last"),), RUNNING))
        self.assertEqual(len(parting(COLUMNS, (tile,), UPTO)[1]), 6)
        for figures_asked in ((PLACED, tile, later), (later, tile), (tile, later, PLACED)):
            found = in_all_forms(self, parting, columns=COLUMNS, figures=figures_asked, condition=UPTO)
            self.assertEqual(len(found[1]), 3)
        self.assertIsNone(parting(COLUMNS, (), UPTO))
        self.assertIsNone(parting(COLUMNS, (PLACED,), UPTO))

    def test_errors(self):
        for function, more in ((parting, {}), (shows_parting, {"thing": SHOP}), (shows_parting, {"thing": None})):
            condition = ("compare", KIND, "=", ("plain", "tea"))
            for figures_asked in ((), (PLACED,), (TOTAL, PLACED)):
                error_in_all_forms(self, NotSimple, {"condition": condition}, function,
                                   columns=COLUMNS, figures=figures_asked, condition=condition, **more)
            other = ("other", *TOTAL[1:])
            error_in_all_forms(self, NotFree, {"name": "total"}, function,
                               columns=COLUMNS, figures=(PLACED, TOTAL, other), condition=OVER, **more)

    def test_no_smaller_table_is_parted(self):
        luck = random.Random(133)
        larger = 0
        for _ in range(600):
            columns = luck.choice((NUMBERS, NUMBERS, searching.TEXTS))
            figure, condition = searching.figure(luck, columns), searching.condition(luck, columns)
            found = parting(columns, (figure,), condition)
            self.assertEqual(found is None, may_pass(columns, (figure,), condition), (figure, condition))
            if found is None:
                continue
            self.assertTrue(searching.is_parted(found, figure, condition), (figure, condition))
            larger += len(found[1]) > 2
            for many in range(2, min(len(found[1]), 6)):
                smaller = searching.parted_table(columns, figure, condition, many, luck, 120)
                self.assertIsNone(smaller, (figure, condition))
        self.assertGreater(larger, 50)


class ShowsParting(unittest.TestCase):
    def check(self, test, figures_asked, condition, things):
        test(self, shows_parting, things, columns=COLUMNS, figures=figures_asked, condition=condition)

    def test_tables_of_any_size(self):
        many = (COLUMNS, tuple((number, ("a", number, None)) for number in range(60)))
        self.check(each_true, (PLACED,), OVER, [SHOP, many, (COLUMNS, many[1][3:5]), parting(COLUMNS, (PLACED,), OVER)])
        self.check(each_false, (PLACED,), OVER, [NO_ROWS, (COLUMNS, many[1][:4]), (COLUMNS, many[1][4:])])
        self.check(each_false, (PLACED,), UPTO, [SHOP, many])
        self.check(each_false, (), OVER, [SHOP, many])
        far = (COLUMNS, ((1, ("a", 10 ** 30, 2)), (10 ** 20, ("a", 10 ** 31, 1))))
        self.check(each_true, (PLACED,), ("compare", PRICE, ">", ("plain", 10 ** 30)), [far])

    def test_one_figure_is_enough(self):
        row = ("row", "row", (), None, ((), (("day", "up", "first"),), RUNNING))
        last = ("last", "row", (), None, ((), (("day", "up", "last"),), RUNNING))
        self.check(each_true, (PLACED, row), UPTO, [SHOP])
        self.check(each_true, (row, PLACED), UPTO, [SHOP])
        self.check(each_false, (last,), UPTO, [SHOP])
        self.check(each_true, (row,), ("compare", DAY, "<", ("plain", 2)), [SHOP])
        self.check(each_false, (last,), ("compare", DAY, "<", ("plain", 2)), [SHOP])

    def test_stray_values(self):
        self.check(each_false, (PLACED,), OVER, STRAY_VALUES + [deep(16), listed(SHOP), list(SHOP),
                                                                (listed(COLUMNS), SHOP[1])])

    def test_one_part_changed(self):
        table = (COLUMNS, ((0, ("a", 3, 1)), (1, ("a", 4, 1))))
        self.check(each_true, (PLACED,), OVER, [table])
        others = (None, True, False, 0, 3, "a", "number", "text", (), [], (0, 1))
        for thing in [*one_part_replaced(table, others), *one_part_more_or_less(table)]:
            fine = is_table(thing) and thing[0] == COLUMNS and searching.is_parted(thing, PLACED, OVER)
            with self.subTest(thing=thing):
                self.assertIs(shows_parting(COLUMNS, (PLACED,), OVER, thing), fine)

    def test_other_columns(self):
        for columns in (COLUMNS[:2], COLUMNS[::-1], COLUMNS + (("more", "text"),)):
            self.check(each_false, (PLACED,), OVER, [(columns, ())])
        wide = (COLUMNS + (("more", "text"),), tuple((number, cells + ("a",)) for number, cells in SHOP[1]))
        self.check(each_false, (PLACED,), OVER, [wide])

    def test_the_filter_is_true_for_kept_rows_only(self):
        rank = ("rank", "rank", (), None, ((), (("day", "up", "first"),), RUNNING))
        table = (COLUMNS, ((0, ("a", 1, None)), (1, ("a", 1, 2))))
        self.check(each_true, (rank,), LATE, [table])


if __name__ == "__main__":
    unittest.main()
