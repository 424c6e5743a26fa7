"""Promises 2 and 11: query texts, what they tell and how queries are written."""

import itertools
import random
import re
import unittest

from overrows.errors import BadLine, Fixed, Misfit, NoWindow, Twice
from overrows.plain import is_query
from overrows.texts import named_text, query_in, query_text, same_query, windows_in
from tests import making
from tests.samples import ALL_SO_FAR, COLUMNS, RUNNING, error_in_all_forms, in_all_forms, strict

TOTAL = ("total", "sum", ("price",), None, ALL_SO_FAR)
PRICE, DAY, KIND = ("column", "price"), ("column", "day"), ("column", "kind")
CHEAP = ("compare", PRICE, "<", ("plain", 4))
EARLY = ("compare", DAY, "<", ("plain", 2))
PLAIN = ("range", ("start",), ("here",), "nobody")
EMPTY = (None, (), None, ())
FIXED = ("and after before between by down end first group groups here if in is last not null or order over passed"
         " range row rows start ties to unlike up without").split()


def number(value):
    return ("plain", value)


def told(text, columns=COLUMNS):
    return query_in(columns, text)


def condition(text, columns=COLUMNS):
    return query_in(columns, f"where {text}")[0]


def figure(text):
    """The FIGURE that a figure line tells, without the line's first words."""
    return query_in(COLUMNS, f"figure f = {text}")[1][0]


def window(text):
    return windows_in(COLUMNS, f"window w = {text}")[0][1]


class Lines(unittest.TestCase):
    def raises(self, wanted, attributes, text, columns=COLUMNS):
        for function in (query_in, windows_in):
            error_in_all_forms(self, wanted, attributes, function, columns=columns, text=text)

    def bad(self, line, at=0):
        """Check that the line of this number is not well written, with errors of other kinds behind it."""
        with self.subTest(line=line):
            text = "\n" * at + line + "\nwhere price = 1\nwhere price = 2\nfigure x = y() over z"
            for function in (query_in, windows_in):
                with self.assertRaises(BadLine) as caught:
                    function(COLUMNS, text)
                self.assertEqual(caught.exception.number, at)


class Examples(Lines):
    def test_query(self):
        text = ('window w = by kind order day\nfigure total = sum(price) over (w rows start)\n'
                'where kind in ("tea", "rice")')
        found = in_all_forms(self, query_in, columns=COLUMNS, text=text)
        kinds = [("compare", KIND, "=", number(kind)) for kind in ("tea", "rice")]
        self.assertEqual(strict(found), strict((("or", *kinds), (TOTAL,), None, ())))
        windows = in_all_forms(self, windows_in, columns=COLUMNS, text=text)
        self.assertEqual(strict(windows), strict([("w", (("kind",), (("day", "up", "last"),), PLAIN))]))

    def test_written(self):
        query = (None, (TOTAL,), ("not", ("and", CHEAP, EARLY)), (("day", "down", "last"),))
        self.assertEqual(in_all_forms(self, query_text, query=query),
                         "figure total = sum(price) over (by kind order day rows start)\n"
                         "keep not (price < 4 and day < 2)\norder day down last")

    def test_named(self):
        dearest = ("dearest", "most", ("price",), None, (("kind",), (), PLAIN))
        self.assertEqual(in_all_forms(self, named_text, query=(None, (dearest, TOTAL), None, ())),
                         "window wa = by kind\nwindow wb = wa order day rows start\n"
                         "figure dearest = most(price) over wa\nfigure total = sum(price) over wb")

    def test_fixed(self):
        self.raises(Fixed, {"name": "w"}, "window w = by kind rows start\nfigure x = count() over (w order day)")


class Tokens(Lines):
    def test_lines_without_tokens(self):
        for text in ("", " ", "\n", "\n \n   \n"):
            self.assertEqual(told(text), EMPTY)
            self.assertEqual(windows_in(COLUMNS, text), [])
        self.assertEqual(told("\n\nwhere price = 1\n  \n"), told("where price = 1"))

    def test_blanks(self):
        wanted = told("figure total = sum(price) over (by kind order day rows start)\nkeep price <= -4 and total > 1/2")
        for text in (
            "  figure total=sum(price)over(by kind order day rows start)\nkeep price<=-4and total>1/2",
            "figure  .total  =  sum  (  price  )  over  (  by  kind  order  day  rows  start  )  \n"
            " keep .price <= -4 and .total>1/2 ",
            "figure.total=sum(.price)over(by.kind order.day rows start)\nkeep.price<=-4and.total>1/2",
        ):
            if "4and" in text:
                self.bad(text.split("\n")[1], 1)
                text = text.replace("4and", "4 and")
            self.assertEqual(told(text), wanted)
        self.assertEqual(condition('kind="tea"and price=1'), condition('kind = "tea" and price = 1'))
        self.assertEqual(condition('null is null and"a"=kind'), condition('null is null and "a" = kind'))

    def test_blanks_that_must_be(self):
        for line in ("where price=1and day=2", "orderprice", "where price = 1 2", "where price1 = 1",
                     "where 1price = 1",
                     "order price.day", "where .price1 = 2", "figure x = tile(3) over (rows 1before)",
                     "where price = 1 .day"):
            self.bad(line)
        self.assertEqual(told("order.price"), (None, (), None, (("price", "up", "last"),)))

    def test_other_characters(self):
        for mark in "\t\r;:!?[]{}+*/\\'_#@&|^~$A\u00e9\u00a0\u0661":
            self.bad(f"where price {mark} = 1")
            self.bad(f"where {mark} price = 1")
            self.bad(f"{mark}where price = 1")
            self.bad(mark)

    def test_numbers(self):
        for text, value in (("0", 0), ("7", 7), ("-7", -7), ("123456789012345", 123456789012345),
                            ("-999999999999999", -999999999999999), ("10", 10), ("100", 100)):
            self.assertEqual(condition(f"price = {text}"), ("compare", PRICE, "=", number(value)))
        for text in ("00", "01", "-0", "-00", "-01", "1234567890123456", "-1234567890123456", "0" * 16, "--1", "- 1",
                     "+1",
                     "1.5", "1_0", "-", "1e3", "\u0663", "\u00b2"):
            self.bad(f"where price = {text}")

    def test_fractions(self):
        def kept(text):
            return told(f"keep price = {text}")[2]
        for text, value in (("1/2", (1, 2)), ("-1/2", (-1, 2)), ("2/1", (2, 1)), ("0/1", (0, 1)), ("7/3", (7, 3)),
                            ("999999999999999/2", (999999999999999, 2)), ("1/999999999999999", (1, 999999999999999))):
            self.assertEqual(kept(text), ("compare", PRICE, "=", number(value)))
            self.raises(Misfit, {"number": 1}, f"\nwhere price = {text}")
            self.raises(Misfit, {"number": 0}, f"figure x = count() if price = {text} over ()")
            self.raises(Misfit, {"number": 0}, f"keep kind = {text}")
        for text in ("2/4", "0/2", "1/0", "-0/1", "1/-2", "1 /2", "1/ 2", "1/", "/2", "1/2/3", "01/2", "1/02",
                     "1/1000000000000000",
                     "1000000000000001/2", "0/0", "1//2", "4/2", "-2/4", "1/a"):
            self.bad(f"keep price = {text}")

    def test_texts(self):
        for text, value in (('""', ""), ('"tea"', "tea"), ('""""', '"'), ('"a""b"', 'a"b'), ('""""""', '""'),
                            ('" "', " "),
                            ('"""a"', '"a'), ('"a"""', 'a"'), ('"(,) and .price \'=<"', "(,) and .price '=<"),
                            ('"~"', "~")):
            self.assertEqual(condition(f"kind = {text}"), ("compare", KIND, "=", number(value)))
            self.assertEqual(condition(f"{text}<>kind"), ("compare", number(value), "<>", KIND))
        for text in ('"', '"tea', 'tea"', '"""', '"a"b"', '"a" "b"', "'tea'", '"""""'):
            self.bad(f"where kind = {text}")

    def test_signs(self):
        for sign in ("=", "<>", "<", "<=", ">", ">="):
            self.assertEqual(condition(f"price{sign}4"), ("compare", PRICE, sign, number(4)))
        self.assertEqual(condition("price<-4"), ("compare", PRICE, "<", number(-4)))
        for sign in ("==", "><", "=<", "=>", "< >", "< =", "!=", "<<", "<>=", "<=>", "", "(", ")", ",", "is", "in",
                     "not"):
            self.bad(f"where price {sign} 4")

    def test_names(self):
        columns = tuple((word[:8], "number") for word in FIXED if len(word) <= 8)
        for name, _ in columns:
            self.assertEqual(condition(f".{name} = 1", columns), ("compare", ("column", name), "=", number(1)))
            if name != "null":
                with self.assertRaises(BadLine):
                    condition(f"{name} = 1", columns)
        others = ("where", "keep", "window", "figure", "board", "column", "text", "number", "add", "counted", "nobody",
                  "nth",
                  "earlier", "count", "wa", "a", "abcdefgh", "with")
        columns = tuple((name, "number") for name in others)
        for name in others:
            for written in (name, f".{name}"):
                text = (f"where {written} = 1\norder {written}\n"
                        f"figure x = sum({written}) over (by {written} order {written})")
                query = query_in(columns, text)
                self.assertEqual(query[0][1], ("column", name))
                self.assertEqual(query[1][0][4], ((name,), ((name, "up", "last"),), PLAIN))
        for name in ("abcdefghi", ".abcdefghi", "Price", "pric\u00e9", "..price", ". price", "price.", "pri ce", "."):
            self.bad(f"where {name} = 1")
            self.bad(f"order {name}")

    def test_many_brackets(self):
        deep = "(" * 95 + "price=1" + ")" * 95
        self.assertEqual(condition(deep), condition("price = 1"))
        self.bad("where (" + deep)
        self.bad("where " + deep + ")")
        self.assertEqual(condition("not " * 40 + "price=1")[0], "not")


class Clauses(Lines):
    def test_keys(self):
        ways = {"": ("up", "last"), "up": ("up", "last"), "down": ("down", "first"), "first": ("up", "first"),
                "last": ("up", "last"), "up first": ("up", "first"), "up last": ("up", "last"),
                "down first": ("down", "first"), "down last": ("down", "last")}
        for text, way in ways.items():
            self.assertEqual(told(f"order price {text}")[3], (("price", *way),))
            self.assertEqual(told(f"order day,price {text},day {text}")[3],
                             (("day", "up", "last"), ("price", *way), ("day", *way)))
            self.assertEqual(window(f"order price {text}")[1], (("price", *way),))
        for text in ("", "price,", ",price", "price day", "price first up", "price up down", "price first last", "down",
                     "price up up", "4", '"price"', "(price)", "price, first", "null", "by price"):
            self.bad(f"order {text}")

    def test_order_of_lines(self):
        lines = ["where price = 1", "figure x = count() over ()", "keep x = 1", "order x"]
        for text in itertools.permutations(lines):
            self.assertEqual(told("\n \n".join(text)), told("\n".join(lines)))
        self.assertEqual([one[0] for one in told("figure b = count() over ()\nfigure a = count() over ()")[1]],
                         ["b", "a"])

    def test_lines_that_are_none(self):
        for line in ("price = 1", "where", "keep", "window", "figure", "select price", "where price", "where price =",
                     "Where price = 1", "where where price = 1", "order by price", "4", '"where"', ".where price = 1",
                     "window w", "window = by kind", "window order = by kind", "window w w", "window w == by kind",
                     "column a text", "board", "row 1 2", "undo", "where price = 1 keep price = 1", ",", "()", "not"):
            self.bad(line)
            self.bad(line, 3)

    def test_conditions(self):
        a, b, c = [f"price = {digit}" for digit in "123"]
        one, two, three = [condition(text) for text in (a, b, c)]
        for text, wanted in (
            (f"{a} and {b} and {c}", ("and", ("and", one, two), three)),
            (f"{a} or {b} or {c}", ("or", ("or", one, two), three)),
            (f"{a} or {b} and {c}", ("or", one, ("and", two, three))),
            (f"{a} and {b} or {c}", ("or", ("and", one, two), three)),
            (f"{a} and ({b} or {c})", ("and", one, ("or", two, three))),
            (f"{a} and ({b} and {c})", ("and", one, ("and", two, three))),
            (f"({a} or {b}) and {c}", ("and", ("or", one, two), three)),
            (f"not {a} and {b}", ("and", ("not", one), two)),
            (f"{a} and not {b} or {c}", ("or", ("and", one, ("not", two)), three)),
            (f"not ({a} and {b})", ("not", ("and", one, two))),
            (f"not not {a}", ("not", ("not", one))),
            (f"not(not({a}))or(({b}))", ("or", ("not", ("not", one)), two)),
            ("price is null", ("null", PRICE)),
            ("price is not null", ("not", ("null", PRICE))),
            ("not price is null", ("not", ("null", PRICE))),
            ("not price is not null", ("not", ("not", ("null", PRICE)))),
            ("null is null", ("null", number(None))),
            ("5 is null", ("null", number(5))),
            ('"a" is not null', ("not", ("null", number("a")))),
            ("price = null", ("compare", PRICE, "=", number(None))),
            ("null < null", ("compare", number(None), "<", number(None))),
            ("1 < 2", ("compare", number(1), "<", number(2))),
            ("price between 1 and day", ("and", ("compare", PRICE, ">=", number(1)), ("compare", PRICE, "<=", DAY))),
            (f"price between 1 and 2 and {c}",
             ("and", ("and", ("compare", PRICE, ">=", number(1)), ("compare", PRICE, "<=", number(2))), three)),
            (f"not price between 1 and 2 or {c}",
             ("or", ("not", ("and", ("compare", PRICE, ">=", number(1)), ("compare", PRICE, "<=", number(2)))), three)),
            ("price in (1)", one),
            ("price in (1, 2, 3)", ("or", ("or", one, two), three)),
            (f"price in (1, 2) and {c}", ("and", ("or", one, two), three)),
            ("not price in(1,2)", ("not", ("or", one, two))),
            ('null in (null, 3, day)', ("or", ("or", ("compare", number(None), "=", number(None)),
                                              ("compare", number(None), "=", number(3))),
                                        ("compare", number(None), "=", DAY))),
        ):
            with self.subTest(text=text):
                self.assertEqual(strict(condition(text)), strict(wanted))
                self.assertEqual(strict(told(f"keep {text}")[2]), strict(wanted))
                self.assertEqual(strict(figure(f"count() if {text} over ()")[3]), strict(wanted))

    def test_conditions_that_are_none(self):
        for text in ("()", "(price = 1", "price = 1)", "price", "not", "price = 1 and", "and price = 1",
                     "price = 1 or or day = 1",
                     "price is", "price is not", "price not null", "price is null null", "price is 4",
                     "price not in (1)",
                     "price in ()", "price in 1", "price in (1", "price in (1,)", "price in ((1))", "price between 1",
                     "price between 1 or 2", "price between (1 and 2)", "price not between 1 and 2", "1 = 2 = 3",
                     "(price) = 1", "price = (1)", "price = not 1", "price = 1 not", "price = unlike", "price = passed",
                     "(price = 1) = 2", "not (price)", "price = 1, day = 1", "price = sum(day)", "price and day"):
            self.bad(f"where {text}")
            self.bad(f"keep {text}")
            self.bad(f"figure x = count() if {text} over ()")


class Windows(Lines):
    def test_specs(self):
        running = ("rows", ("start",), ("here",), "nobody")
        for text, wanted in (
            ("", ((), (), PLAIN)),
            ("by kind", (("kind",), (), PLAIN)),
            ("by kind, day", (("kind", "day"), (), PLAIN)),
            ("order day down", ((), (("day", "down", "first"),), PLAIN)),
            ("rows start", ((), (), running)),
            ("rows start to here", ((), (), running)),
            ("range start to here", ((), (), PLAIN)),
            ("by kind order day, price rows start", (("kind",), (("day", "up", "last"), ("price", "up", "last")),
                                                     running)),
            ("groups 2 before", ((), (), ("groups", ("before", 2), ("here",), "nobody"))),
            ("rows 2 after", ((), (), ("rows", ("after", 2), ("here",), "nobody"))),
            ("rows 2 before to 0 after", ((), (), ("rows", ("before", 2), ("after", 0), "nobody"))),
            ("rows here to end without row", ((), (), ("rows", ("here",), ("end",), "row"))),
            ("rows start without group", ((), (), ("rows", ("start",), ("here",), "group"))),
            ("rows start to 3 before without ties", ((), (), ("rows", ("start",), ("before", 3), "ties"))),
            ("order day range 1 before to 999999999999999 after",
             ((), (("day", "up", "last"),), ("range", ("before", 1), ("after", 999999999999999), "nobody"))),
        ):
            with self.subTest(text=text):
                self.assertEqual(strict(window(text)), strict(wanted))
                self.assertEqual(strict(figure(f"count() over ({text})")[4]), strict(wanted))
                query = query_in(COLUMNS, f"window w = {text}\nfigure x = count() over w")
                self.assertEqual(strict(query[1][0][4]), strict(wanted))

    def test_specs_that_are_not_so_written(self):
        for text in ("by", "order", "rows", "by kind by day", "order day by kind", "rows start order day", "by kind,",
                     "rows start here", "rows to here", "rows start to", "rows -1 before", "rows 1/2 before",
                     "rows before",
                     "rows 1", "rows start without", "rows start without nobody", "rows start without rows",
                     "rows without row", "rows start to here to end", "by kind day", "by 4", "range unlike",
                     "group start",
                     "row start", "start", "rows 1 here", "rows one before", "rows start range start", "(by kind)",
                     ", by kind",
                     "rows null before", '"w"', "w w", "by .order.by"):
            self.bad(f"window w = {text}")
            self.bad(f"figure x = count() over ({text})")

    def test_windows_that_fit_no_columns(self):
        for text in ("by color", "by kind, kind", "order color", "rows end", "rows end to end", "rows start to start",
                     "range 1 before",
                     "rows here to start", "order kind range 1 before", "order day, price range here to 1 after",
                     "by day range 0 after",
                     "order day range end"):
            self.raises(Misfit, {"number": 1}, f"\nwindow w = {text}")
            self.raises(Misfit, {"number": 2}, f"\nwindow w = by kind\nfigure x = count() over ({text})")

    def test_built_windows(self):
        base = "window w = by kind\nwindow v = by kind order day down\n"
        down, up = ("day", "down", "first"), ("price", "up", "last")
        rows = ("rows", ("before", 1), ("here",), "ties")
        for text, wanted in (
            ("w", (("kind",), (), PLAIN)),
            ("v", (("kind",), (down,), PLAIN)),
            ("w order price", (("kind",), (up,), PLAIN)),
            ("w rows 1 before without ties", (("kind",), (), rows)),
            ("w order price rows 1 before without ties", (("kind",), (up,), rows)),
            ("v rows 1 before without ties", (("kind",), (down,), rows)),
            ("v range 3 before to 1 before", (("kind",), (down,), ("range", ("before", 3), ("before", 1), "nobody"))),
        ):
            for written in (text, "." + text):
                found = windows_in(COLUMNS, f"{base}window u = {written}")
                self.assertEqual(strict(found[2]), strict(("u", wanted)))
                query = told(f"{base}figure x = count() over ({written})")
                self.assertEqual(strict(query[1][0][4]), strict(wanted))
        chain = windows_in(COLUMNS, "window a = by kind\nwindow b = a\nwindow c = b order day\nwindow d = c rows start")
        self.assertEqual(chain[3][1], ALL_SO_FAR)
        self.raises(Fixed, {"name": "c"},
                    "window a = by kind\nwindow b = a\nwindow c = b order day\nwindow d = c order price")
        self.assertEqual(told("window w = rows start\nfigure x = count() over w")[1][0][4], ((), (), RUNNING))

    def test_fixed(self):
        base = ("window w = by kind\nwindow v = order day\nwindow u = order day rows start\n"
                "window t = range start to here\nwindow s = w order price\n")
        for name, more in (("w", "by kind"), ("w", "by day rows start"), ("v", "order day"), ("v", "by kind"),
                           ("v", "by kind order price"),
                           ("u", ""), ("u", "rows start"), ("u", "by kind"), ("t", ""), ("t", "order day"),
                           ("s", "order day"),
                           ("s", "by color"), ("u", "rows end")):
            self.raises(Fixed, {"name": name}, f"{base}window x = {name} {more}")
            self.raises(Fixed, {"name": name}, f"{base}figure x = nothing(color) over (.{name} {more})")
        self.assertEqual(len(windows_in(COLUMNS, f"{base}window x = v rows start")), 6)

    def test_no_window(self):
        for line in ("window w = w", "window w = v", "figure x = count() over w", "figure x = count() over (w)",
                     "figure x = count() over .w", "figure x = wrong(color, 1/2) over w"):
            name = "v" if line == "window w = v" else "w"
            self.raises(NoWindow, {"name": name}, f"{line}\nwindow v = by kind\nwindow {name} = by kind")
        self.raises(NoWindow, {"name": "order"}, "figure x = count() over .order")
        self.raises(NoWindow, {"name": "kind"}, "figure x = count() over kind")

    def test_names_of_windows_and_figures_are_apart(self):
        text = ("window kind = by kind\nwindow x = kind\nfigure x = count() over x\nfigure w = count() over kind\n"
                "window w = by day")
        self.assertEqual([name for name, _ in windows_in(COLUMNS, text)], ["kind", "x", "w"])
        self.assertEqual([one[0] for one in told(text)[1]], ["x", "w"])


class Figures(Lines):
    def test_calls(self):
        for text, wanted in (
            ("row()", ("row", ())), ("rank()", ("rank", ())), ("tile(3)", ("tile", (3,))), ("count()", ("count", ())),
            ("count(kind)", ("count", ("kind",))), ("count(kind, unlike)", ("count", ("kind", "unlike"))),
            ("joined(.kind,unlike)", ("joined", ("kind", "unlike"))), ("most(day)", ("most", ("day",))),
            ("earlier(price, 1)", ("earlier", ("price", 1, None, "counted"))),
            ("earlier(price, 0, null)", ("earlier", ("price", 0, None, "counted"))),
            ("earlier(price, 1, -5)", ("earlier", ("price", 1, -5, "counted"))),
            ('later(kind, 1, "day", passed)', ("later", ("kind", 1, "day", "passed"))),
            ("later(kind, 1, passed)", ("later", ("kind", 1, None, "passed"))),
            ("later(kind, 1, null, passed)", ("later", ("kind", 1, None, "passed"))),
            ("first(kind)", ("first", ("kind", "counted"))), ("last(kind, passed)", ("last", ("kind", "passed"))),
            ("nth(kind, 2)", ("nth", ("kind", 2, "counted"))),
            ("nth(.kind, 2, passed)", ("nth", ("kind", 2, "passed"))),
        ):
            with self.subTest(text=text):
                self.assertEqual(strict(figure(f"{text} over ()")[1:4]), strict((*wanted, None)))

    def test_calls_that_are_none(self):
        for text in (
            "tile()", "tile(0)", "tile(-1)", "tile(1, 2)", "tile(kind)", 'tile("kind")', "tile(null)", "tile(1/2)",
            "row(1)",
            "row(kind)", "row(passed)", "rank(unlike)", "count(unlike)", "count(passed)", "count(1)", 'count("kind")',
            "count(color)", "count(kind, passed)", "count(kind, day)", "count(kind, unlike, unlike)",
            'count(kind, "unlike")',
            "sum(kind)", "sum()", "mean(kind, unlike)", "joined(day)", "least(day, unlike)", "earlier(price)",
            "earlier(price, passed)", 'earlier("price", 1)', "earlier(1, price)", "earlier(price, -1)",
            'earlier(price, 1, "a")', "earlier(price, 1, day)", "earlier(price, 1, 1/2)",
            "earlier(price, 1, 0, counted)",
            "earlier(price, 1, passed, 0)", "earlier(price, 1, 0, unlike)", "earlier(price, 1, passed, passed)",
            'earlier(price, 1, 0, "passed")', "earlier(kind, 1, 3)", "earlier(price, null)", "later(passed, price, 1)",
            "first()", "first(kind, 1)", "first(kind, unlike)", "first(kind, counted)", "first(kind, null)",
            "first(passed)",
            "last(kind, passed, passed)", "nth(kind)", "nth(kind, 0)", "nth(kind, passed)", "nth(kind, passed, 2)",
            "nth(kind, 1, null)", "nth(kind, day)", "nothing()", "groups()", "kind(kind)", "abcdefghijkl(1, passed)",
            "unlike(unlike)", "order()", "null(null)",
        ):
            self.raises(Misfit, {"number": 1}, f"\nfigure x = {text} over ()")

    def test_lines_that_are_not_so_written(self):
        for text in ("count() over", "count()", "count over ()", "count( over ()", "count) over ()", "count(,) over ()",
                     "count(kind,) over ()", "count(kind day) over ()", ".count() over ()", "count() over w v",
                     "count() over (by kind", "count() over by kind", "count() if over ()", "count() if price = 1",
                     "count() (by kind)", "over ()", "4() over ()", '"count"() over ()', "count() over () if price = 1",
                     "count()() over ()", "count(price = 1) over ()", "count(sum(price)) over ()", "count() over ()()",
                     "first(row) over ()", "first(by) over ()", "count(*) over ()", "count() over order",
                     "count() over 4"):
            self.bad(f"figure x = {text}")
        for text in ("figure = count() over ()", "figure order = count() over ()", "figure x count() over ()",
                     "figure abcdefghi = count() over ()", "figure x = = count() over ()",
                     "figure 4 = count() over ()"):
            self.bad(text)

    def test_conditions_belong_to_sums(self):
        for text in ("row()", "tile(2)", "first(kind)", "earlier(price, 1)"):
            self.raises(Misfit, {"number": 0}, f"figure x = {text} if price = 1 over ()")
        self.raises(Misfit, {"number": 0}, "figure x = count() if color = 1 over ()")
        self.raises(Misfit, {"number": 1}, "figure y = count() over ()\nfigure x = count() if y = 1 over ()")
        self.raises(Misfit, {"number": 0}, 'figure x = count() if price = "a" over ()')


class Errors(Lines):
    def test_the_first_line_that_is_not_so_written(self):
        self.raises(BadLine, {"number": 1}, "where color = 1\nwhere price = \nkeep !\norder")
        self.raises(BadLine, {"number": 4}, "\nwhere price = 1\n\nwhere color = 1\norder price up up\n?")
        self.raises(BadLine, {"number": 1}, "where price = 1\nwhere price = = 2\n#")
        self.raises(BadLine, {"number": 0}, "where price = 1 and\n\"")

    def test_twice(self):
        for word, clause in (("where", "price = 1"), ("keep", "price = 1"), ("order", "price")):
            self.raises(Twice, {"name": word}, f"{word} {clause}\n\n{word} {clause}")
            self.raises(Twice, {"name": word},
                        f"{word} {clause}\n{word} {clause.replace('price', 'color')}\nwhere color = 1")
        self.raises(Twice, {"name": "w"}, "window w = by kind\nwindow v = by kind\nwindow .w = by color")
        self.raises(Twice, {"name": "w"}, "window w = by kind\nwindow w = u by day")
        self.raises(Twice, {"name": "price"}, "figure price = count() over w")
        self.raises(Twice, {"name": "x"}, "figure x = count() over ()\nfigure .x = wrong() over (w by kind)")

    def test_one_line_after_the_other(self):
        self.raises(Misfit, {"number": 0}, "where color = 1\nfigure x = count() over w\nfigure price = count() over ()")
        self.raises(NoWindow, {"name": "w"}, "keep color = 1\norder color\nfigure x = count() over w\nwhere color = 1")
        self.raises(Twice, {"name": "kind"}, "keep color = 1\nfigure kind = count() over w\nwhere color = 1")
        self.raises(Misfit, {"number": 1}, "order color\nwindow w = by color\nwindow w = w")
        self.raises(Fixed, {"name": "w"}, "window w = rows start\nfigure x = wrong() over (w)\nfigure x = y() over ()")
        self.raises(NoWindow, {"name": "v"}, "window w = rows start\nfigure x = wrong() over (v by kind)")

    def test_keep_and_order_at_last(self):
        self.raises(Misfit, {"number": 2}, "order color\n\nkeep color = 1")
        self.raises(Misfit, {"number": 0}, "order color\n\nkeep price = 1")
        self.raises(Misfit, {"number": 1}, "figure x = first(kind) over ()\nkeep x = 1")
        self.raises(Misfit, {"number": 1}, 'figure x = mean(price) over ()\nkeep x = "a"')
        self.raises(Misfit, {"number": 0}, "where x = 1\nfigure x = count() over ()")
        self.assertEqual(told("order x\nkeep x = 1/2\nfigure x = count() over ()")[2:],
                         (("compare", ("column", "x"), "=", number((1, 2))), (("x", "up", "last"),)))

    def test_where_that_fits_no_columns(self):
        for text in ("color = 1", 'price = "a"', "kind = 1", "kind = price", "price = 1 and color is null", '1 = "a"',
                     "kind between 1 and 2", "price in (1, kind)", "price = 1/2", "1/2 is null"):
            self.raises(Misfit, {"number": 2}, f"\n\nwhere {text}")

    def test_same_query(self):
        one = "figure x = count() over (order day up last range start to here)"
        other = "figure x = count() over (order day)"
        self.assertIs(in_all_forms(self, same_query, columns=COLUMNS, one=one, other=other), True)
        self.assertIs(in_all_forms(self, same_query, columns=COLUMNS, one=one, other=f"\n{other}\norder day"), False)
        self.assertIs(same_query(COLUMNS, "where price = 1 and day = 1", "where day = 1 and price = 1"), False)
        self.assertIs(same_query(COLUMNS, "keep price = 2", "keep price = 2/1"), False)
        self.assertIs(same_query(COLUMNS, "", "\n"), True)
        self.assertIs(same_query(COLUMNS, "window w = by kind", ""), True)
        for wrong, error, attributes in (("\n#", BadLine, {"number": 1}), ("order a", Misfit, {"number": 0}),
                                         ("figure x = row() over w", NoWindow, {"name": "w"})):
            error_in_all_forms(self, error, attributes, same_query, columns=COLUMNS, one=wrong, other="\n\n\n#")
            error_in_all_forms(self, error, attributes, same_query, columns=COLUMNS, one=one, other=wrong)

    def test_every_answer_is_a_new_list(self):
        text = "window w = by kind"
        windows_in(COLUMNS, text).clear()
        self.assertEqual(len(windows_in(COLUMNS, text)), 1)


def many_queries(seed, many):
    """QUERYs over columns of which some have fixed words as names, with texts that have quotes."""
    luck = random.Random(seed)
    names = {"k": "order", "a": "a", "b": "null"}
    for _ in range(many):
        query = making.query(luck, luck.choice((0, 1, 2, 4)))

        def renamed(value):
            if isinstance(value, tuple):
                return tuple(renamed(item) for item in value)
            return {**names, "x": 'q"q', "figa": "row"}.get(value, value) if isinstance(value, str) else value
        yield renamed(query)


ODD_COLUMNS = (("order", "text"), ("a", "number"), ("null", "number"))
TOKEN = re.compile(r'"(?:[^"]|"")*"|\.?[a-z]+|-?[0-9]+(?:/[0-9]+)?|<>|<=|>=|[(),=<>]|\n')


class Written(unittest.TestCase):
    def check(self, query, short, named=None):
        self.assertEqual(in_all_forms(self, query_text, query=query), short)
        self.assertEqual(query_in(COLUMNS, short), query)
        if named is not None:
            self.assertEqual(in_all_forms(self, named_text, query=query), named)
            self.assertEqual(query_in(COLUMNS, named), query)

    def test_nothing(self):
        self.check(EMPTY, "", "")
        self.check((CHEAP, (), None, ()), "where price < 4", "where price < 4")
        whole = ("f", "count", (), None, ((), (), PLAIN))
        self.check((None, (whole,), None, ()), "figure f = count() over ()", "window wa =\nfigure f = count() over wa")

    def test_conditions(self):
        a, b, c = [("compare", PRICE, "=", number(digit)) for digit in (1, 2, 3)]
        for asked, text in (
            (("and", ("and", a, b), c), "price = 1 and price = 2 and price = 3"),
            (("and", a, ("and", b, c)), "price = 1 and (price = 2 and price = 3)"),
            (("or", ("or", a, b), c), "price = 1 or price = 2 or price = 3"),
            (("or", a, ("or", b, c)), "price = 1 or (price = 2 or price = 3)"),
            (("or", ("and", a, b), ("and", b, c)), "price = 1 and price = 2 or price = 2 and price = 3"),
            (("and", ("or", a, b), ("or", b, c)), "(price = 1 or price = 2) and (price = 2 or price = 3)"),
            (("not", ("not", a)), "not not price = 1"),
            (("not", ("or", a, b)), "not (price = 1 or price = 2)"),
            (("and", ("not", a), ("not", b)), "not price = 1 and not price = 2"),
            (("not", ("and", ("not", ("or", a, b)), c)), "not (not (price = 1 or price = 2) and price = 3)"),
            (("not", ("null", PRICE)), "not price is null"),
            (("null", number("a\"b")), '"a""b" is null'),
            (("compare", number(None), "<>", number(-5)), "null <> -5"),
            (("compare", KIND, ">=", number("")), 'kind >= ""'),
            (("and", ("compare", PRICE, ">=", number(1)), ("compare", PRICE, "<=", number(2))),
             "price >= 1 and price <= 2"),
        ):
            self.check((asked, (), None, ()), f"where {text}")
            self.check((None, (), asked, ()), f"keep {text}")
            self.check((None, (("f", "count", (), asked, ((), (), PLAIN)),), None, ()),
                       f"figure f = count() if {text} over ()")
        self.check((None, (), ("compare", PRICE, "<", number((-1, 2))), ()), "keep price < -1/2")

    def test_orders(self):
        for way, nulls, text in (("up", "last", ""), ("up", "first", " first"), ("down", "first", " down"),
                                 ("down", "last", " down last")):
            order = (("day", way, nulls), ("kind", way, nulls))
            self.check((None, (), None, order), f"order day{text}, kind{text}")
            whole = ("f", "count", (), None, ((), order, PLAIN))
            self.check((None, (whole,), None, ()), f"figure f = count() over (order day{text}, kind{text})")

    def test_calls(self):
        for call, text in (
            (("tile", (3,)), "tile(3)"), (("percent", ()), "percent()"),
            (("count", ("kind", "unlike")), "count(kind, unlike)"),
            (("earlier", ("price", 1, None, "counted")), "earlier(price, 1)"),
            (("earlier", ("price", 1, None, "passed")), "earlier(price, 1, passed)"),
            (("later", ("kind", 0, 'a"', "passed")), 'later(kind, 0, "a""", passed)'),
            (("later", ("price", 2, -3, "counted")), "later(price, 2, -3)"),
            (("first", ("kind", "counted")), "first(kind)"), (("last", ("kind", "passed")), "last(kind, passed)"),
            (("nth", ("kind", 2, "passed")), "nth(kind, 2, passed)"),
        ):
            self.check((None, (("f", *call, None, ((), (), PLAIN)),), None, ()), f"figure f = {text} over ()")

    def test_frames(self):
        for frame, text in (
            (("rows", ("start",), ("here",), "nobody"), "rows start"),
            (("range", ("start",), ("end",), "nobody"), "range start to end"),
            (("range", ("start",), ("here",), "row"), "range start without row"),
            (("groups", ("here",), ("here",), "ties"), "groups here without ties"),
            (("rows", ("before", 0), ("after", 0), "group"), "rows 0 before to 0 after without group"),
            (("range", ("after", 2), ("here",), "nobody"), "range 2 after"),
        ):
            order = (("day", "up", "last"),)
            whole = ("f", "count", (), None, (("kind", "price"), order, frame))
            self.check((None, (whole,), None, ()), f"figure f = count() over (by kind, price order day {text})",
                       f"window wa = by kind, price order day {text}\nfigure f = count() over wa")

    def test_windows_that_are_built(self):
        rows, day, price = RUNNING, (("day", "up", "last"),), (("price", "down", "first"),)

        def query(*windows):
            return (None, tuple((f"f{'abcdef'[place]}", "count", (), None, one) for place, one in enumerate(windows)),
                    None, ())

        def named(*windows):
            found = named_text(query(*windows))
            self.assertEqual(query_in(COLUMNS, found), query(*windows))
            return [line.split(" = ")[1] if " = " in line else "" for line in found.split("\n")
                    if line.startswith("window")]
        self.assertEqual(named((("kind",), (), PLAIN), (("kind",), day, PLAIN), (("kind",), day, rows),
                               (("kind",), price, rows)),
                         ["by kind", "wa order day", "wa order day rows start", "wa order price down rows start"])
        self.assertEqual(named((("kind",), day, PLAIN), (("kind",), day, rows), (("kind",), (), PLAIN),
                               (("kind",), (), rows)),
                         ["by kind order day", "wa rows start", "by kind", "wc rows start"])
        self.assertEqual(named(((), day, PLAIN), ((), day, rows), ((), (), PLAIN), ((), price, PLAIN),
                               ((), price, rows)),
                         ["order day", "wa rows start", "", "order price down", "wd rows start"])
        self.assertEqual(named((("kind",), day, rows), (("kind",), day, PLAIN), (("kind",), day, rows)),
                         ["by kind order day rows start", "by kind order day"])
        self.assertEqual(named((("kind", "day"), (), PLAIN), (("day", "kind"), (), PLAIN),
                               (("day", "kind"), price, PLAIN)),
                         ["by kind, day", "by day, kind", "wb order price down"])
        self.assertEqual(named((("kind",), (), ("range", ("start",), ("here",), "row")), (("kind",), day, PLAIN)),
                         ["by kind range start without row", "by kind order day"])

    def test_order_of_lines(self):
        query = (CHEAP, (TOTAL,), EARLY, (("day", "up", "last"),))
        lines = ["where price < 4", "figure total = sum(price) over wa", "keep day < 2", "order day"]
        self.check(query, "\n".join(lines).replace("wa", "(by kind order day rows start)"),
                   "\n".join([lines[0], "window wa = by kind order day rows start", *lines[1:]]))

    def test_many_windows(self):
        figures = tuple((f"f{one}{other}", "count", (), None,
                         ((), (), ("rows", ("before", place), ("here",), "nobody")))
                        for place, (one, other) in enumerate(itertools.product("abcdef", "abcdef")))
        text = named_text((None, figures, None, ()))
        self.assertEqual(query_in(COLUMNS, text)[1], figures)
        self.assertIn("\nwindow wz = rows 25 before\n", text)

    def test_told_and_written_again(self):
        for query in many_queries(111, 500):
            self.assertTrue(is_query(ODD_COLUMNS, query))
            for text in (query_text(query), named_text(query)):
                self.assertEqual(strict(query_in(ODD_COLUMNS, text)), strict(query), text)
                self.assertTrue(same_query(ODD_COLUMNS, text, query_text(query)))
                self.assertFalse(text.endswith("\n") or "  " in text or " \n" in text or "( " in text or " )" in text,
                                 text)

    def test_nothing_more_may_be_left_out(self):
        for query in many_queries(112, 60):
            for text in (query_text(query), named_text(query)):
                tokens = TOKEN.findall(text)
                shorter = [tokens[:place] + tokens[place + 1:] for place in range(len(tokens))]
                opened = []
                for place, token in enumerate(tokens):
                    if token == "(":
                        opened.append(place)
                    if token == ")":
                        first = opened.pop()
                        shorter.append([one for at, one in enumerate(tokens) if at not in (first, place)])
                shorter += [tokens[:place] + [token[1:]] + tokens[place + 1:]
                            for place, token in enumerate(tokens) if token[0] == "."]
                for left in shorter:
                    self.assertFalse(self.tells(" ".join(left), query), (text, left))

    def tells(self, text, query):
        try:
            return query_in(ODD_COLUMNS, text) == query
        except (BadLine, Twice, NoWindow, Fixed, Misfit):
            return False

    def test_all_that_may_be_left_out_may_be_written(self):
        luck = random.Random(113)
        for query in many_queries(114, 300):
            text = long_text(luck, query)
            self.assertEqual(strict(query_in(ODD_COLUMNS, text)), strict(query), text)


def long_text(luck, query):
    """A text of a QUERY with dots, blanks, brackets and words that need not be there."""
    where, figures, keep, order = query
    lines = []
    windows = {}
    for figure in figures:
        name, function, arguments, condition, window = figure
        args = long_arguments(luck, function, arguments)
        asked = "" if condition is None else f"if {long_condition(luck, condition)}"
        over = f"( {long_spec(luck, window)} )"
        if luck.random() < 0.5:
            windows.setdefault(window, f".w{'abcdefgh'[len(windows)]}")
            over = windows[window]
        lines.append(f"figure .{name} = {function} ( {' , '.join(args)} ) {asked} over {over}")
    lines = [f"window {name} = {long_spec(luck, window)}" for window, name in windows.items()] + lines
    if where is not None:
        lines.insert(luck.randrange(len(lines) + 1), f"where {long_condition(luck, where)}")
    if keep is not None:
        lines.insert(luck.randrange(len(lines) + 1), f"keep {long_condition(luck, keep)}")
    if order:
        lines.insert(luck.randrange(len(lines) + 1), f"order {long_order(luck, order)}")
    return luck.choice(("\n", "\n\n", " \n   \n ")).join(lines)


def long_arguments(luck, function, arguments):
    if function in ("count", "sum", "mean", "least", "most", "joined"):
        return [f".{name}" for name in arguments[:1]] + list(arguments[1:])
    if function in ("earlier", "later", "first", "last", "nth"):
        return ([f".{arguments[0]}"] + [long_value(value) for value in arguments[1:-1]]
                + (["passed"] if arguments[-1] == "passed" else []))
    return [long_value(value) for value in arguments]


def long_value(value):
    if isinstance(value, tuple):
        return f"{value[0]}/{value[1]}"
    return "null" if value is None else str(value) if isinstance(value, int) else '"' + value.replace('"', '""') + '"'


def long_item(item):
    return f".{item[1]}" if item[0] == "column" else long_value(item[1])


def long_condition(luck, condition):
    word = condition[0]
    if word == "compare":
        text = f"{long_item(condition[1])}{condition[2]} {long_item(condition[3])}"
    elif word == "null":
        text = f"{long_item(condition[1])} is null"
    elif word == "not" and condition[1][0] == "null" and luck.random() < 0.7:
        text = f"{long_item(condition[1][1])} is not null"
    else:
        parts = [f"({long_condition(luck, part)})" for part in condition[1:]]
        text = f"not{parts[0]}" if word == "not" else f"{parts[0]}{word}{parts[1]}"
    return luck.choice((text, f"( {text} )", f"(({text}))"))


def long_order(luck, order):
    return " , ".join(f".{name} {way} {nulls}" for name, way, nulls in order)


def long_spec(luck, window):
    parts, order, (unit, low, high, without) = window
    words = ["by " + ",".join(f".{name}" for name in parts)] if parts else []
    if order:
        words.append("order " + long_order(luck, order))
    bounds = [bound[0] if len(bound) == 1 else f"{bound[1]} {bound[0]}" for bound in (low, high)]
    words.append(f"{unit} {bounds[0]} to {bounds[1]}" + ("" if without == "nobody" else f" without {without}"))
    return "  ".join(words)


if __name__ == "__main__":
    unittest.main()
