"""Promises 1 and 13: filters that may pass, and queries in which they stand as early as they may."""

import random
import unittest

from overrows.errors import NotFree, NotSimple
from overrows.passing import may_pass, moved
from overrows.plain import answer, is_query
from tests import making, searching
from tests.samples import ALL_SO_FAR, COLUMNS, RUNNING, SHOP, error_in_all_forms, in_all_forms, listed, strict

NUMBERS = searching.NUMBERS
PRICE, DAY, KIND = ("column", "price"), ("column", "day"), ("column", "kind")
TOTAL = ("total", "sum", ("price",), None, ALL_SO_FAR)
PLACED = ("placed", "rank", (), None, (("kind",), (("price", "up", "last"),), RUNNING))
UPTO = ("compare", PRICE, "<=", ("plain", 4))
OVER = ("compare", PRICE, ">", ("plain", 3))
LATE = ("compare", DAY, ">=", ("plain", 2))
KNOWN = ("not", ("null", KIND))

NULL = ("null", ("column", "c"))
NOT_NULL = ("not", NULL)


def sign(word):
    return ("compare", ("column", "c"), word, ("plain", 1))


def order(*items):
    """An ORDER of items such as "c", "-c" (down) or "*c" (None first)."""
    return tuple((item[-1], "down" if "-" in item else "up", "first" if "*" in item else "last") for item in items)


def bound(word):
    if isinstance(word, int):
        return ("here",) if word == 0 else ("before", -word) if word < 0 else ("after", word)
    return (word,)


def frame(unit, low, high, without="nobody"):
    return (unit, bound(low), bound(high), without)


def passes(call, condition, window_order, asked=RUNNING, parts=()):
    """Whether the CONDITION on c may pass a FIGURE with this CALL and WINDOW."""
    return may_pass(NUMBERS, (("f", *call, None, (parts, window_order, asked)),), condition)


COUNT, FIRST, LAST = ("count", ()), ("first", ("a", "counted")), ("last", ("a", "counted"))


def nth(number, nulls="counted"):
    return ("nth", ("a", number, nulls))


class Ranks(unittest.TestCase):
    def check(self, function, condition, wanted):
        """Compare with what is wanted for these orders, in turn."""
        orders = [order(), order("c"), order("*c"), order("-c"), order("-*c"), order("d"), order("d", "c"),
                  order("c", "d"), order("*c", "d"), order("c", "c")]
        arguments = (2,) if function == "tile" else ()
        found = "".join("+" if passes((function, arguments), condition, one) else "-" for one in orders)
        self.assertEqual(found, wanted)

    def test_row(self):
        self.check("row", sign("<="), "-+----" + "-+-+")
        self.check("row", sign(">"), "---+--" + "----")
        self.check("row", sign("="), "----------")
        self.check("row", sign("<>"), "----------")
        self.check("row", NULL, "--+-+-" + "--+-")
        self.check("row", NOT_NULL, "-+-+--" + "-+-+")

    def test_rank_and_dense(self):
        for function in ("rank", "dense"):
            self.check(function, sign("<"), "++----" + "-+-+")
            self.check(function, sign(">="), "+--+--" + "----")
            self.check(function, NULL, "+-+-+-" + "--+-")
            self.check(function, NOT_NULL, "++-+--" + "-+-+")

    def test_tile(self):
        for condition in (sign("<"), sign("="), NULL, NOT_NULL):
            self.check("tile", condition, "----------")
            self.assertTrue(passes(("tile", (1,)), condition, order("d")))
            self.assertFalse(passes(("tile", (50,)), condition, order("c")))

    def test_percent(self):
        self.check("percent", sign("<="), "+---------")
        self.check("percent", sign("="), "+---------")
        self.check("percent", NULL, "+-+-+-----")
        self.check("percent", NOT_NULL, "+---------")

    def test_share(self):
        self.check("share", sign(">="), "+---------")
        self.check("share", sign("="), "+---------")
        self.check("share", NULL, "++-+-----+")
        self.check("share", NOT_NULL, "+---------")

    def test_c_is_a_part(self):
        for function in ("row", "rank", "dense", "percent", "share", "tile"):
            for one in (order(), order("c"), order("d"), order("d", "c")):
                arguments = (3,) if function == "tile" else ()
                self.assertTrue(passes((function, arguments), sign("="), one, parts=("c",)))
                self.assertTrue(passes((function, arguments), NULL, one, parts=("d", "c")))

    def test_parts_in_the_order_do_not_count(self):
        self.assertTrue(passes(("rank", ()), sign("<="), order("d", "c"), parts=("d",)))
        self.assertTrue(passes(("rank", ()), sign("="), order("d"), parts=("d",)))
        self.assertFalse(passes(("rank", ()), sign("<="), order("d", "e", "c"), parts=("d",)))
        self.assertTrue(passes(("share", ()), NULL, order("d", "c", "d"), parts=("d",)))


class Offsets(unittest.TestCase):
    def test_earlier_and_later(self):
        for nulls in ("counted", "passed"):
            def both(number, condition, one):
                return (passes(("earlier", ("a", number, 7, nulls)), condition, one),
                        passes(("later", ("a", number, 7, nulls)), condition, one))
            self.assertEqual(both(0, sign("="), order()), (True, True))
            self.assertEqual(both(1, sign("="), order()), (False, False))
            self.assertEqual(both(1, sign("<="), order("c")), (True, False))
            self.assertEqual(both(50, sign("<="), order("-c")), (False, False))
            self.assertEqual(both(50, sign("<="), order("-*c")), (False, True))
            self.assertEqual(both(2, NULL, order("c")), (False, True))
            self.assertEqual(both(2, NULL, order("*c", "d")), (True, False))
            self.assertEqual(both(2, NOT_NULL, order("d", "c")), (False, False))


class Sums(unittest.TestCase):
    def table(self, condition, one, frames):
        """For each FRAME whether the CONDITION passes a count."""
        return "".join("+" if passes(COUNT, condition, one, asked) else "-" for asked in frames)

    def test_frames_that_reach_back_or_ahead_only(self):
        for unit in ("rows", "groups", "range"):
            frames = [frame(unit, "start", 0), frame(unit, 0, "end"), frame(unit, "start", "end"), frame(unit, 0, 0)]
            self.assertEqual(self.table(sign("<="), order("c"), frames), "+--+")
            self.assertEqual(self.table(sign("<="), order("*c"), frames), "---+")
            self.assertEqual(self.table(sign("<="), order("-*c"), frames), "-+-+")
            self.assertEqual(self.table(NULL, order("c"), frames), "-+-+")
            self.assertEqual(self.table(NOT_NULL, order("c"), frames), "+--+")
        frames = [frame("rows", "start", 0), frame("rows", 0, "end"), frame("rows", "start", "end"),
                  frame("rows", 0, 0)]
        self.assertEqual(self.table(sign("<="), order("d"), frames), "---+")
        self.assertEqual(self.table(sign("<="), order(), frames), "---+")
        frames = [frame("groups", "start", 0), frame("groups", 0, 0), frame("groups", 0, 0, "group")]
        self.assertEqual(self.table(sign("<="), order("d"), frames), "--+")
        self.assertEqual(self.table(sign("<="), order("d", "c"), frames), "-++")

    def test_crossed_and_empty_frames(self):
        for unit in ("rows", "groups"):
            frames = [frame(unit, 2, 1), frame(unit, -1, -2), frame(unit, 1, -1), frame(unit, 0, -1), frame(unit, 1, 0)]
            self.assertEqual(self.table(sign("="), order("d"), frames), "+++++")
            self.assertEqual(self.table(sign("="), order(), frames), "+++++")
        frames = [frame("range", 2, 1), frame("range", 2, 1, "row"), frame("range", 2, 1, "group"),
                  frame("range", 2, 1, "ties")]
        self.assertEqual(self.table(sign("="), order("d"), frames), "--++")
        self.assertEqual(self.table(sign("="), order("c"), frames), "++++")

    def test_without_an_order(self):
        frames = [frame("rows", -1, 1, without) for without in ("nobody", "row", "group", "ties")]
        self.assertEqual(self.table(sign("="), order(), frames), "--++")
        frames = [frame("groups", -1, 1, without) for without in ("nobody", "row", "group", "ties")]
        self.assertEqual(self.table(sign("="), order(), frames), "--++")
        self.assertTrue(passes(COUNT, sign("="), order(), frame("groups", 1, "end")))
        self.assertTrue(passes(COUNT, sign("="), order(), frame("groups", "start", -1)))

    def test_range_along_c(self):
        frames = [frame("range", -2, 0), frame("range", -3, -2), frame("range", "start", -2), frame("range", -2, "end"),
                  frame("range", 2, "end"), frame("range", 0, 2), frame("range", "start", 2), frame("range", 1, 2)]
        self.assertEqual(self.table(sign("<="), order("c"), frames), "+++-----")
        self.assertEqual(self.table(sign("<="), order("*c"), frames), "++------")
        self.assertEqual(self.table(sign("<="), order("-c"), frames), "-----" + "+-+")
        self.assertEqual(self.table(NULL, order("c"), frames), "++-+++-+")
        self.assertEqual(self.table(NULL, order("*c"), frames), "+++--+++")
        self.assertEqual(self.table(NOT_NULL, order("c"), frames), "+++--+++")
        self.assertEqual(self.table(NOT_NULL, order("*c"), frames), "++-+++-+")
        self.assertEqual(self.table(sign("<>"), order("c"), frames), "--------")
        zeros = [("range", ("before", 0), ("after", 0), "nobody"), ("range", ("after", 0), ("before", 0), "nobody")]
        self.assertEqual(self.table(sign("<>"), order("c"), zeros), "++")

    def test_every_sum_and_kind(self):
        for function in ("count", "sum", "mean", "least", "most"):
            for more in ((), ("unlike",)) if function in ("count", "sum", "mean") else ((),):
                self.assertTrue(passes((function, ("a", *more)), sign("<="), order("c")))
                self.assertFalse(passes((function, ("a", *more)), sign(">="), order("c")))
        for arguments in (("a",), ("a", "unlike")):
            figure = ("f", "joined", arguments, None, ((), order("c"), RUNNING))
            self.assertTrue(may_pass(searching.TEXTS, (figure,), NOT_NULL))
            self.assertFalse(may_pass(searching.TEXTS, (figure,), NULL))


class Chosen(unittest.TestCase):
    def both(self, condition, one, asked):
        return "".join("+" if passes(call, condition, one, asked) else "-" for call in (FIRST, LAST, nth(1), nth(2)))

    def test_rows_behind_or_before_only(self):
        self.assertEqual(self.both(sign("<="), order("c"), frame("rows", "start", "end")), "+-+-")
        self.assertEqual(self.both(sign("<="), order("-*c"), frame("rows", "start", "end")), "-+--")
        self.assertEqual(self.both(sign("<="), order("d"), frame("groups", "start", "end")), "----")
        self.assertEqual(self.both(sign("="), order(), frame("rows", 0, 3)), "+-+-")
        self.assertEqual(self.both(sign("="), order(), frame("rows", -3, 0)), "-+--")
        self.assertEqual(self.both(sign("="), order(), frame("groups", 0, 0)), "----")

    def test_rows_that_are_not_in_their_frames(self):
        self.assertEqual(self.both(sign("<="), order("c"), frame("rows", 1, 3)), "----")
        self.assertEqual(self.both(sign("<="), order("c"), frame("rows", 0, 3, "row")), "----")
        self.assertEqual(self.both(sign("<="), order("c"), frame("rows", 0, 3, "group")), "----")
        self.assertEqual(self.both(sign("<="), order("c"), frame("rows", 0, 3, "ties")), "+-+-")

    def test_nulls_that_are_passed(self):
        for call in (("first", ("a", "passed")), nth(1, "passed")):
            self.assertFalse(passes(call, sign("<="), order("c"), frame("rows", 0, 3)))
            self.assertTrue(passes(call, sign("<="), order("c"), frame("rows", -3, 0)))
        self.assertFalse(passes(("last", ("a", "passed")), sign("="), order(), frame("rows", -3, 0)))

    def test_frames_with_too_few_rows(self):
        def least(condition, one, asked):
            """The first number up to 60 of which "nth" lets pass, and of which none lets pass from there on."""
            found = [passes(nth(number, "passed"), condition, one, asked) for number in range(1, 61)]
            self.assertEqual(found, sorted(found))
            return found.index(True) + 1 if True in found else None
        self.assertEqual(least(sign("="), order("d"), frame("rows", -2, 3)), 7)
        self.assertEqual(least(sign("="), order("d"), frame("rows", -2, 3, "row")), 6)
        self.assertEqual(least(sign("="), order("d"), frame("rows", -2, 3, "group")), 6)
        self.assertEqual(least(sign("="), order("d"), frame("rows", -2, 3, "ties")), 7)
        self.assertEqual(least(sign("="), order("c"), frame("rows", -5, -3)), 4)
        self.assertEqual(least(sign("="), order("c"), frame("rows", 3, 50)), 49)
        self.assertEqual(least(sign("="), order("c"), frame("rows", "start", -3)), None)
        self.assertEqual(least(sign("="), order("c"), frame("groups", -1, 0)), None)
        self.assertEqual(least(NULL, order("c"), frame("rows", -2, 3)), 7)
        self.assertEqual(least(NULL, order("c"), frame("rows", -2, 3, "ties")), 4)
        self.assertEqual(least(NULL, order("c"), frame("rows", -2, 3, "group")), 3)
        self.assertEqual(least(NULL, order("*c"), frame("rows", -2, "end", "group")), None)
        self.assertEqual(least(NULL, order("*c"), frame("rows", "start", 3, "group")), 4)
        self.assertEqual(least(NULL, order("*c", "d"), frame("rows", "start", 3, "group")), None)
        self.assertEqual(least(NULL, order("*c"), frame("rows", "start", 3, "ties")), 5)
        self.assertEqual(least(sign("<="), order("c"), frame("rows", -2, 3, "group")), 6)
        self.assertEqual(least(NOT_NULL, order("*c"), frame("rows", -2, 3, "ties")), 7)
        self.assertEqual(least(sign("="), order("d"), frame("rows", -5, -3, "row")), 4)
        self.assertEqual(least(sign("="), order("d"), frame("rows", 3, 5, "group")), 4)

    def test_range_along_c_of_rows_without_a_value(self):
        self.assertEqual(self.both(NULL, order("*c"), frame("range", 1, "end")), "+-+-")
        self.assertEqual(self.both(NULL, order("c"), frame("range", "start", -1)), "-+--")
        self.assertEqual(self.both(NOT_NULL, order("c"), frame("range", 1, "end")), "----")
        self.assertEqual(self.both(NOT_NULL, order("c"), frame("range", 0, "end")), "+-+-")


class MayPass(unittest.TestCase):
    def test_examples(self):
        self.assertIs(in_all_forms(self, may_pass, columns=COLUMNS, figures=(PLACED,), condition=UPTO), True)
        self.assertIs(in_all_forms(self, may_pass, columns=COLUMNS, figures=(PLACED,), condition=OVER), False)
        null = ("null", KIND)
        self.assertIs(in_all_forms(self, may_pass, columns=COLUMNS, figures=(TOTAL,), condition=null), True)
        error_in_all_forms(self, NotFree, {"name": "total"}, may_pass, columns=COLUMNS, figures=(TOTAL,),
                           condition=OVER)

    def test_several_figures(self):
        other = ("other", "row", (), None, (("kind",), (("price", "down", "last"),), RUNNING))
        for condition in (UPTO, OVER):
            self.assertIs(in_all_forms(self, may_pass, columns=COLUMNS, figures=(), condition=condition), True)
            for figures in ((PLACED, other), (other, PLACED)):
                found = in_all_forms(self, may_pass, columns=COLUMNS, figures=figures, condition=condition)
                self.assertIs(found, False)

    def test_not_simple(self):
        for condition in (
            ("compare", PRICE, "<", DAY), ("compare", ("plain", 4), "<", PRICE),
            ("compare", PRICE, "=", ("plain", None)),
            ("compare", KIND, "=", ("plain", "tea")), ("compare", KIND, "=", ("plain", None)),
            ("null", ("plain", None)),
            ("compare", ("plain", 1), "=", ("plain", 1)), ("not", UPTO), ("not", ("not", ("null", KIND))),
            ("and", UPTO, UPTO), ("or", ("null", KIND), ("null", KIND)), ("not", ("null", ("plain", 3))),
            ("not", ("and", UPTO, UPTO)),
        ):
            for figures in ((), (PLACED,), (TOTAL,)):
                error_in_all_forms(self, NotSimple, {"condition": condition}, may_pass,
                                   columns=COLUMNS, figures=figures, condition=condition)

    def test_not_free(self):
        window = ((), (("day", "up", "last"), ("kind", "up", "last")), RUNNING)
        for number, (function, arguments, condition) in enumerate((
            ("count", (), OVER), ("sum", ("price",), None), ("least", ("day",), None), ("count", ("kind",), None),
            ("earlier", ("price", 1, None, "counted"), None), ("last", ("kind", "passed"), None),
            ("nth", ("day", 1, "passed"), None),
        )):
            figure = ("bad", function, arguments, condition, window)
            free = ("free", "row", (), None, window)
            with self.subTest(number=number):
                error_in_all_forms(self, NotFree, {"name": "bad"}, may_pass,
                                   columns=COLUMNS, figures=(free, figure, TOTAL), condition=OVER)
        joined = ("joined", "joined", ("kind",), None, ALL_SO_FAR)
        error_in_all_forms(self, NotFree, {"name": "joined"}, may_pass,
                           columns=COLUMNS, figures=(joined, TOTAL), condition=LATE)

    def test_defaults_and_unlike_name_no_column(self):
        columns = (("day", "number"), ("kind", "text"), ("unlike", "number"))
        window = ((), (("unlike", "up", "last"),), RUNNING)
        for function, arguments in (("earlier", ("kind", 1, "day", "counted")), ("count", ("kind", "unlike"))):
            figure = ("f", function, arguments, None, window)
            self.assertIs(may_pass(columns, (figure,), ("compare", ("column", "day"), "=", ("plain", 1))), False)

    def test_no_small_table_is_parted_where_it_may(self):
        luck = random.Random(131)
        passing = 0
        for _ in range(500):
            columns = luck.choice((NUMBERS, NUMBERS, searching.TEXTS))
            figure, condition = searching.figure(luck, columns), searching.condition(luck, columns)
            if not may_pass(columns, (figure,), condition):
                continue
            passing += 1
            for many in (2, 3, 4, 5):
                found = searching.parted_table(columns, figure, condition, many, luck, 70)
                self.assertIsNone(found, (figure, condition))
        self.assertGreater(passing, 100)


class Moved(unittest.TestCase):
    def check(self, query, wanted):
        self.assertTrue(is_query(COLUMNS, query))
        found = in_all_forms(self, moved, columns=COLUMNS, query=query)
        self.assertEqual(strict(found), strict(wanted))
        self.assertEqual(moved(COLUMNS, found), found)
        self.assertEqual(answer(SHOP, found), answer(SHOP, query))

    def test_example(self):
        self.check((None, (PLACED,), ("and", OVER, UPTO), ()), (UPTO, (PLACED,), OVER, ()))

    def test_where_is_there_already(self):
        order_by = (("price", "up", "last"),)
        self.check((LATE, (PLACED,), UPTO, order_by), (("and", LATE, UPTO), (PLACED,), None, order_by))
        self.check((None, (PLACED,), None, ()), (None, (PLACED,), None, ()))

    def test_terms_in_any_brackets(self):
        late = ("compare", ("column", "placed"), "<", ("plain", 9))
        big = ("compare", ("column", "placed"), "<", ("plain", (19, 2)))
        either = ("or", UPTO, UPTO)
        self.check((LATE, (PLACED,), ("and", UPTO, ("and", ("and", late, KNOWN), ("and", either, big))), ()),
                   (("and", ("and", LATE, UPTO), KNOWN), (PLACED,), ("and", ("and", late, either), big), ()))
        self.check((None, (PLACED,), ("and", late, ("and", either, big)), ()),
                   (None, (PLACED,), ("and", ("and", late, either), big), ()))

    def test_terms_that_are_not_simple_stay(self):
        for term in (("not", UPTO), ("compare", PRICE, "<", DAY), ("null", ("column", "placed")),
                     ("compare", PRICE, "<", ("plain", (1, 2))), ("compare", ("plain", 4), ">", PRICE), OVER,
                     ("not", ("null", ("column", "placed"))), ("not", ("not", ("null", KIND)))):
            self.check((None, (PLACED,), term, ()), (None, (PLACED,), term, ()))

    def test_figures_that_are_not_free(self):
        self.check((None, (PLACED, TOTAL), ("and", UPTO, KNOWN), ()), (KNOWN, (PLACED, TOTAL), UPTO, ()))
        self.check((None, (), ("and", UPTO, KNOWN), ()), (("and", UPTO, KNOWN), (), None, ()))
        counted = ("counted", "count", (), UPTO, ((), (), RUNNING))
        self.check((None, (counted,), KNOWN, ()), (None, (counted,), KNOWN, ()))
        in_parts = ("counted", "count", (), UPTO, (("kind",), (), RUNNING))
        self.check((None, (in_parts,), KNOWN, ()), (None, (in_parts,), KNOWN, ()))
        same = ("same", "first", ("kind", "counted"), None, (("kind",), (), RUNNING))
        self.check((None, (same,), KNOWN, ()), (None, (same,), KNOWN, ()))

    def test_made_queries_keep_their_answers(self):
        luck = random.Random(132)
        changes = 0
        for _ in range(600):
            where, figures, keep, order_by = making.query(luck, luck.choice((0, 1, 1, 2)))
            simple = [("not", ("null", ("column", luck.choice(("k", "a"))))), ("null", ("column", "b")),
                      ("compare", ("column", luck.choice("ab")), luck.choice((">", "<=", "=")), ("plain", 1))]
            keep = ("and", luck.choice(simple), luck.choice(simple)) if keep is None else ("and", keep, simple[0])
            query = (where, figures, keep, order_by)
            found = moved(making.COLUMNS, query)
            self.assertTrue(is_query(making.COLUMNS, found))
            changes += found != query
            for many in (3, 9):
                table = making.table(luck, many)
                self.assertEqual(answer(table, found), answer(table, query))
        self.assertGreater(changes, 100)

    def test_lists_become_tuples(self):
        query = (None, (PLACED,), ("and", OVER, UPTO), ())
        self.assertEqual(strict(moved(COLUMNS, listed(query))), strict((UPTO, (PLACED,), OVER, ())))


if __name__ == "__main__":
    unittest.main()
