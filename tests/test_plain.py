"""Promises 1, 2 and 9: figures and queries, and what they are by the definition."""

import random
import unittest

from overrows.errors import NoRow
from overrows.orders import is_order
from overrows.plain import answer, figures, is_figure, is_query, look
from tests import making, words
from tests.samples import (
    ALL_SO_FAR, COLUMNS, NO_ROWS, RUNNING, SHOP, STRAY_VALUES, deep, each_false, each_true, error_in_all_forms,
    in_all_forms, listed, one_part_replaced,
)

TOTAL = ("total", "sum", ("price",), None, ALL_SO_FAR)
EARLY = ("compare", ("column", "day"), "<", ("plain", 2))
WHOLE = ("rows", ("start",), ("end",), "nobody")
BARE = ((), (), ("range", ("start",), ("here",), "nobody"))
MEAN = ("m", "mean", ("price",), None, BARE)
NAMES = ("names", "joined", ("kind",), EARLY, BARE)
STEP = ("step", "later", ("price", 1, None, "passed"), None, ALL_SO_FAR)
# Nothing that may stand anywhere in a FIGURE, a QUERY or a PLAN.
NEVER = [True, False, [], ("x",) * 9, ["x", "up", "last"]]


def figure_with(place, value, figure=TOTAL):
    return figure[:place] + (value,) + figure[place + 1:]


class IsFigure(unittest.TestCase):
    def test_figures(self):
        each_true(self, is_figure, [
            TOTAL, MEAN, NAMES, STEP,
            ("abcdefgh", "row", (), None, BARE),
            ("price", "count", (), ("null", ("plain", None)), BARE),
            ("x", "count", ("kind", "unlike"), EARLY, (("kind", "day"), (("day", "down", "first"),) * 3, WHOLE)),
        ], columns=COLUMNS)

    def test_conditions_belong_to_sums(self):
        for function, arguments in [("count", ()), ("sum", ("price",)), ("mean", ("day", "unlike")),
                                    ("least", ("kind",)), ("most", ("kind",)), ("joined", ("kind",))]:
            each_true(self, is_figure, [("x", function, arguments, EARLY, BARE)], columns=COLUMNS)
        for function, arguments in [("row", ()), ("rank", ()), ("dense", ()), ("percent", ()), ("share", ()),
                                    ("tile", (2,)), ("first", ("day", "counted")), ("last", ("day", "counted")),
                                    ("nth", ("day", 1, "passed")), ("earlier", ("day", 1, 0, "counted")),
                                    ("later", ("day", 1, 0, "counted"))]:
            each_true(self, is_figure, [("x", function, arguments, None, BARE)], columns=COLUMNS)
            each_false(self, is_figure, [("x", function, arguments, EARLY, BARE)], columns=COLUMNS)

    def test_wrong_things(self):
        each_false(self, is_figure, STRAY_VALUES + [deep(16), listed(deep(16)), listed(TOTAL)], columns=COLUMNS)
        each_false(self, is_figure, [figure_with(0, name) for name in [
            "", "Total", "total1", "abcdefghi", "a b", None, True, 1, ("total",), ["total"],
        ]], columns=COLUMNS)
        each_false(self, is_figure, [figure_with(1, function) for function in [
            "", "total", "row", "joined", "nth", None, True, ("sum",),
        ]], columns=COLUMNS)
        each_false(self, is_figure, [figure_with(2, arguments) for arguments in [
            (), ("kind",), ("total",), ("price", "price"), ["price"], "price", None, ("price", "counted"),
        ]], columns=COLUMNS)
        each_false(self, is_figure, [figure_with(3, condition) for condition in [
            (), True, "price", listed(EARLY), EARLY[:3], ("compare", ("column", "day"), "<", ("plain", (1, 2))),
            ("null", ("column", "total")), ("not", None),
        ]], columns=COLUMNS)
        each_false(self, is_figure, [figure_with(4, window) for window in [
            None, (), ALL_SO_FAR[:2], ALL_SO_FAR + ("nobody",), listed(ALL_SO_FAR),
            (("total",),) + ALL_SO_FAR[1:], ((), (), ("range", ("before", 1), ("here",), "nobody")),
        ]], columns=COLUMNS)

    def test_one_part_replaced(self):
        for figure in (TOTAL, NAMES, STEP):
            each_false(self, is_figure, one_part_replaced(figure, NEVER), columns=COLUMNS)
            each_false(self, is_figure, [figure[:place] + figure[place + 1:] for place in range(5)], columns=COLUMNS)
            each_false(self, is_figure, [figure + (None,), figure + figure], columns=COLUMNS)

    def test_other_columns(self):
        self.assertIs(in_all_forms(self, is_figure, columns=COLUMNS[:2], thing=TOTAL), False)
        columns = COLUMNS + (("more", "text"),)
        self.assertIs(in_all_forms(self, is_figure, columns=columns, thing=TOTAL), True)


class IsQuery(unittest.TestCase):
    def test_queries(self):
        each_true(self, is_query, [
            (None, (), None, ()),
            (None, (TOTAL,), None, ()),
            (EARLY, (TOTAL, MEAN, NAMES, STEP), ("not", EARLY), (("day", "up", "last"), ("total", "down", "first"))),
            (("null", ("column", "kind")), (), EARLY, (("kind", "up", "last"),) * 5),
        ], columns=COLUMNS)

    def test_names_that_clash(self):
        each_false(self, is_query, [(None, (TOTAL, MEAN, TOTAL), None, ())], columns=COLUMNS)
        each_false(self, is_query, [(None, (TOTAL, MEAN, figure_with(0, "total", NAMES)), None, ())], columns=COLUMNS)
        for name, _ in COLUMNS:
            each_false(self, is_query, [(None, (MEAN, figure_with(0, name)), None, ())], columns=COLUMNS)

    def test_figures_in_keep_and_order_have_kinds(self):
        kinds = {TOTAL: "number", MEAN: "number", NAMES: "text", STEP: "number"}
        for figure, kind in kinds.items():
            for value, value_kind in [(1, "number"), ("x", "text"), (None, kind), ((1, 2), "number")]:
                keep = ("compare", ("plain", value), ">=", ("column", figure[0]))
                thing = (None, (figure,), keep, ((figure[0], "up", "first"),))
                self.assertIs(in_all_forms(self, is_query, columns=COLUMNS, thing=thing), value_kind == kind)
        figures = (MEAN, NAMES)
        each_true(self, is_query, [
            (None, figures, ("compare", ("column", "m"), "<", ("column", "price")), ()),
            (None, figures, ("compare", ("column", "names"), "<", ("column", "kind")), ()),
        ], columns=COLUMNS)
        each_false(self, is_query, [
            (None, figures, ("compare", ("column", "m"), "<", ("column", "kind")), ()),
            (None, figures, ("compare", ("column", "names"), "<", ("column", "m")), ()),
        ], columns=COLUMNS)

    def test_figures_are_none_of_where(self):
        each_false(self, is_query, [
            (("null", ("column", "total")), (TOTAL,), None, ()),
            (None, (TOTAL, figure_with(3, ("null", ("column", "total")), NAMES)), None, ()),
            (None, (TOTAL,), ("null", ("column", "m")), ()),
            (None, (TOTAL,), None, (("m", "up", "last"),)),
        ], columns=COLUMNS)

    def test_fractions(self):
        for fraction, fine in [((1, 2), True), ((2, 1), True), ((0, 1), True), ((-1, 3), True), ((10 ** 40, 3), True),
                               ((2, 4), False), ((0, 2), False), ((1, 0), False), ((1, -2), False), ((0, 0), False),
                               ((True, 2), False), ((1, True), False), ([1, 2], False), ((1,), False),
                               (("1", 2), False), ((1, 2, 3), False), ((1, (2,)), False), ((None, 1), False),
                               ((-2, 4), False)]:
            compare = ("compare", ("column", "m"), "<", ("plain", fraction))
            null = ("null", ("plain", fraction))
            for condition in (compare, null, ("not", compare), ("or", null, compare)):
                self.assertIs(
                    in_all_forms(self, is_query, columns=COLUMNS, thing=(None, (MEAN,), condition, ())), fine)
            # They may stand in keep beside columns, too, but neither in where nor in a FIGURE's condition.
            compare = ("compare", ("column", "price"), "<", ("plain", fraction))
            self.assertIs(is_query(COLUMNS, (None, (), compare, ())), fine)
            self.assertIs(is_query(COLUMNS, (compare, (), None, ())), False)
            self.assertIs(is_query(COLUMNS, (None, (figure_with(3, compare),), None, ())), False)

    def test_wrong_things(self):
        fine = (EARLY, (TOTAL, MEAN), EARLY, (("day", "up", "last"), ("total", "down", "first")))
        each_true(self, is_query, [fine], columns=COLUMNS)
        each_false(self, is_query, STRAY_VALUES + [deep(16), listed(fine)], columns=COLUMNS)
        each_false(self, is_query, one_part_replaced(fine, NEVER), columns=COLUMNS)
        each_false(self, is_query, [fine[:place] + fine[place + 1:] for place in range(4)], columns=COLUMNS)
        each_false(self, is_query, [fine + (None,), fine + ((),)], columns=COLUMNS)
        for place, others in enumerate([
            [(), "day", True, listed(EARLY), (EARLY,), 1],
            [None, TOTAL, [TOTAL], (TOTAL, None), (listed(TOTAL),), "total", ((),)],
            [(), "day", True, listed(EARLY), (EARLY,), ("null", ("column", "day"), "x")],
            [None, ("total", "up", "last"), [("total", "up", "last")], (("total", "up"),), (("total", "up", "lost"),),
             (("totals", "up", "last"),), "total", ((),), (["total", "up", "last"],)],
        ]):
            for other in others:
                thing = fine[:place] + (other,) + fine[place + 1:]
                self.assertIs(in_all_forms(self, is_query, columns=COLUMNS, thing=thing), False, thing)

    def test_made_queries(self):
        luck = random.Random(9)
        for _ in range(100):
            query = making.query(luck, luck.randrange(4))
            self.assertIs(in_all_forms(self, is_query, columns=making.COLUMNS, thing=query), True)
            self.assertIs(all(is_figure(making.COLUMNS, figure) for figure in query[1]), True)
            for thing in one_part_replaced(query, NEVER):
                self.assertIs(is_query(making.COLUMNS, thing), False, thing)


class Look(unittest.TestCase):
    def test_examples(self):
        for number, wanted in [(2, (3, 4)), (4, (3, 4, 5)), (5, (2, 2))]:
            self.assertEqual(in_all_forms(self, look, table=SHOP, figure=TOTAL, number=number), wanted)

    def looks(self, function, arguments, window, condition=None, table=SHOP):
        figure = ("x", function, arguments, condition, window)
        return [in_all_forms(self, look, table=table, figure=figure, number=number) for number, _ in table[1]]

    def test_sums(self):
        self.assertEqual(self.looks("count", (), ALL_SO_FAR), [(1,), (1, 1), (1,), (1, 1, 1), (1, 1)])
        self.assertEqual(self.looks("count", ("day",), ALL_SO_FAR), [(1,), (1, 2), (1,), (1, 2), (1, 2)])
        by_price = ((), (("price", "down", "last"),), RUNNING)
        self.assertEqual(self.looks("joined", ("kind",), by_price, EARLY), [
            ("tea",), (), ("tea", "rice"), (), ("tea", "rice")])
        self.assertEqual(self.looks("count", (), by_price, EARLY), [(1,), (), (1, 1), (), (1, 1)])
        self.assertEqual(self.looks("sum", ("price", "unlike"), BARE), [(3, 4, 2, 5, 2)] * 5)

    def test_the_condition_keeps_only_what_is_true(self):
        unknown = ("compare", ("column", "day"), ">", ("plain", 1))
        self.assertEqual(self.looks("sum", ("price",), BARE, unknown), [(4, 2)] * 5)
        self.assertEqual(self.looks("sum", ("price",), BARE, ("not", unknown)), [(3, 2)] * 5)

    def test_ranks_and_offsets(self):
        by_price = ((), (("price", "up", "last"),), RUNNING)
        self.assertEqual(self.looks("share", (), by_price), [(3, 5), (4, 5), (2, 5), (5, 5), (2, 5)])
        self.assertEqual(self.looks("tile", (3,), by_price), [(2, 5), (3, 5), (0, 5), (4, 5), (1, 5)])
        self.assertEqual(
            self.looks("earlier", ("kind", 1, "none", "counted"), by_price),
            [("rice",), ("tea",), (), ("tea",), ("rice",)])
        self.assertEqual(self.looks("first", ("day", "passed"), ALL_SO_FAR), [(1,), (1,), (1,), (1,), (1,)])

    def test_no_row(self):
        for number in (0, 6, 999):
            error_in_all_forms(self, NoRow, {"number": number}, look, table=SHOP, figure=TOTAL, number=number)
        error_in_all_forms(self, NoRow, {"number": 1}, look, table=NO_ROWS, figure=MEAN, number=1)

    def test_made_looks(self):
        luck = random.Random(3)
        for _ in range(200):
            table = making.table(luck, luck.randrange(1, 8))
            figure = making.figure(luck)
            for number, _ in table[1]:
                self.assertEqual(look(table, figure, number), words.look_of(table, figure, number), (table, figure))


class Figures(unittest.TestCase):
    def figures(self, *asked, where=None, table=SHOP):
        return in_all_forms(self, figures, table=table, query=(where, asked, None, ()))

    def test_values_in_order(self):
        self.assertEqual(self.figures(TOTAL, MEAN), [
            (1, (3, (16, 5))), (2, (7, (16, 5))), (3, (2, (16, 5))), (4, (12, (16, 5))), (5, (4, (16, 5)))])

    def test_only_kept_rows_are_seen(self):
        self.assertEqual(self.figures(MEAN, where=EARLY), [(1, ((5, 2),)), (3, ((5, 2),))])
        self.assertEqual(self.figures(MEAN, where=("null", ("plain", 1))), [])

    def test_without_figures_or_rows(self):
        self.assertEqual(self.figures(), [(1, ()), (2, ()), (3, ()), (4, ()), (5, ())])
        self.assertEqual(self.figures(TOTAL, MEAN, table=NO_ROWS), [])
        self.assertEqual(self.figures(table=NO_ROWS), [])

    def test_partitions_of_one_row(self):
        window = (("kind", "price", "day"), (), WHOLE)
        figure = ("x", "percent", (), None, window)
        table = (COLUMNS, SHOP[1][:4])
        self.assertEqual(self.figures(figure, figure_with(4, window), table=table), [
            (1, ((0, 1), 3)), (2, ((0, 1), 4)), (3, ((0, 1), 2)), (4, ((0, 1), 5))])

    def test_without_parts_and_order(self):
        rows = ("r", "row", (), None, BARE)
        ranks = ("s", "rank", (), None, BARE)
        step = ("t", "earlier", ("kind", 1, "none", "counted"), None, BARE)
        self.assertEqual(self.figures(rows, ranks, step), [
            (1, (1, 1, "none")), (2, (2, 1, "tea")), (3, (3, 1, "tea")), (4, (4, 1, "rice")), (5, (5, 1, "tea"))])

    def test_every_answer_is_a_new_list(self):
        query = (None, (TOTAL,), None, ())
        for function in (figures, answer):
            function(SHOP, query).clear()
            self.assertEqual(len(function(SHOP, query)), 5)


class Answer(unittest.TestCase):
    def answer(self, *asked, where=None, keep=None, order=(), table=SHOP):
        return in_all_forms(self, answer, table=table, query=(where, asked, keep, order))

    def test_example(self):
        keep = ("compare", ("column", "total"), ">", ("plain", 4))
        self.assertEqual(
            self.answer(TOTAL, keep=keep, order=(("total", "down", "last"),)),
            [(4, ("tea", 5, None), (12,)), (2, ("tea", 4, 2), (7,))])

    def test_without_figures(self):
        self.assertEqual(self.answer(keep=EARLY), [(1, ("tea", 3, 1), ()), (3, ("rice", 2, 1), ())])
        self.assertEqual(
            [row[0] for row in self.answer(where=EARLY, order=(("kind", "up", "last"),))], [3, 1])
        self.assertEqual(self.answer(table=NO_ROWS), [])

    def test_keep_does_not_change_the_figures(self):
        self.assertEqual(self.answer(MEAN, keep=EARLY), [
            (1, ("tea", 3, 1), ((16, 5),)), (3, ("rice", 2, 1), ((16, 5),))])
        self.assertEqual(self.answer(MEAN, where=EARLY), [
            (1, ("tea", 3, 1), ((5, 2),)), (3, ("rice", 2, 1), ((5, 2),))])

    def test_fractions_are_compared_by_their_size(self):
        figure = ("m", "mean", ("price",), None, (("kind", "day"), (), WHOLE))
        share = ("s", "share", (), None, ((), (("price", "up", "last"), ("day", "up", "last")), WHOLE))
        shares = {1: (3, 5), 2: (4, 5), 3: (1, 5), 4: (1, 1), 5: (2, 5)}
        self.assertEqual({row[0]: row[2] for row in self.answer(share)}, {key: (one,) for key, one in shares.items()})
        for sign, fraction, wanted in [
            ("<", (1, 2), [3, 5]), ("<=", (2, 5), [3, 5]), (">", (2, 3), [2, 4]), ("=", (3, 5), [1]),
            (">=", (10 ** 30, 10 ** 30 + 1), [4]), ("<>", (4, 5), [1, 3, 4, 5]),
        ]:
            keep = ("compare", ("column", "s"), sign, ("plain", fraction))
            self.assertEqual([row[0] for row in self.answer(share, keep=keep)], wanted)
        for sign, number, wanted in [("=", 1, [4]), (">=", 1, [4]), ("<", 1, [1, 2, 3, 5]), ("<>", 0, [1, 2, 3, 4, 5])]:
            keep = ("compare", ("column", "s"), sign, ("plain", number))
            self.assertEqual([row[0] for row in self.answer(share, keep=keep)], wanted)
        keep = ("compare", ("column", "m"), "=", ("column", "price"))
        self.assertEqual([row[0] for row in self.answer(figure, keep=keep)], [1, 2, 3, 4, 5])
        keep = ("compare", ("column", "price"), "<", ("plain", (7, 2)))
        self.assertEqual([row[0] for row in self.answer(keep=keep)], [1, 3, 5])
        keep = ("compare", ("plain", (2, 1)), "=", ("plain", 2))
        self.assertEqual([row[0] for row in self.answer(keep=keep)], [1, 2, 3, 4, 5])

    def test_order_by_fractions(self):
        share = ("s", "share", (), None, ((), (("price", "up", "last"),), WHOLE))
        self.assertEqual([row[0] for row in self.answer(share, order=(("s", "up", "last"),))], [3, 5, 1, 2, 4])
        self.assertEqual([row[0] for row in self.answer(share, order=(("s", "down", "last"),))], [4, 2, 1, 3, 5])
        mean = ("m", "mean", ("day",), None, (("price",), (), WHOLE))
        self.assertEqual([(row[0], row[2]) for row in self.answer(mean, order=(("m", "up", "first"),))], [
            (4, (None,)), (1, ((1, 1),)), (3, ((3, 2),)), (5, ((3, 2),)), (2, ((2, 1),))])
        self.assertEqual([row[0] for row in self.answer(mean, order=(("m", "down", "last"), ("kind", "up", "last")))], [
            2, 3, 5, 1, 4])

    def test_order_by_texts(self):
        figure = ("x", "earlier", ("kind", 1, None, "counted"), None, ((), (("price", "up", "last"),), RUNNING))
        order = (("x", "down", "first"), ("price", "down", "last"))
        self.assertEqual(
            [(row[0], row[2][0]) for row in self.answer(figure, order=order)],
            [(3, None), (4, "tea"), (2, "tea"), (1, "rice"), (5, "rice")])
        keep = ("not", ("compare", ("column", "x"), "=", ("plain", "tea")))
        self.assertEqual([row[0] for row in self.answer(figure, keep=keep)], [1, 5])

    def test_made_queries(self):
        luck = random.Random(4)
        for _ in range(300):
            table = making.table(luck, luck.randrange(8))
            query = making.query(luck, luck.randrange(4))
            self.assertEqual(figures(table, query), words.figures_of(table, query), (table, query))
            self.assertEqual(answer(table, query), words.answer_of(table, query), (table, query))

    def test_made_queries_in_all_forms(self):
        luck = random.Random(5)
        for _ in range(40):
            table = making.table(luck, luck.randrange(8))
            query = making.query(luck, 2)
            in_all_forms(self, answer, table=table, query=query)
            self.assertIs(is_order(table[0], ()), True)

    def test_a_value_depends_on_its_look_alone(self):
        luck = random.Random(6)
        for _ in range(60):
            figure = making.figure(luck)
            values = {}
            for _ in range(6):
                table = making.table(luck, luck.randrange(1, 6))
                for number, (value,) in figures(table, (None, (figure,), None, ())):
                    self.assertEqual(values.setdefault(look(table, figure, number), value), value)


if __name__ == "__main__":
    unittest.main()
