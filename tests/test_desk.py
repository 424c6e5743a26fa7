"""Promise 17: sheets and the answers to their requests."""

import random
import unittest

from overrows.desk import answers
from overrows.errors import BadCells, BadLine, Fixed, Misfit, NoRow, NoWindow, Taken, Twice
from overrows.live import Board
from overrows.passing import moved
from overrows.plain import answer, figures
from overrows.plans import fewest_sorts
from overrows.reasons import why
from overrows.tables import added, changed, deleted
from overrows.texts import query_in, query_text
from overrows.touched import touched
from tests import making
from tests.samples import error_in_all_forms, in_all_forms
from tests.test_texts import long_value
from tests.words import holds

SHEET = ('column kind text\ncolumn price number\nrow 1 "tea", 3\nrow 4 "tea", null\n'
         'figure n = count() over (by kind order price)\nkeep price < 9\nboard')
ALL = "\nfigures\nanswer\nwhy 1 n\nsorts\nfilters\ncomputed"


class Answers(unittest.TestCase):
    def check(self, text, wanted):
        self.assertEqual(in_all_forms(self, answers, text=text), wanted)

    def test_examples(self):
        self.check(SHEET + '\nfigures\nadd 2 "tea", 1\nanswer\nwhy 1 n\nundo\nundo',
                   ["1 1; 4 2", "1 n look; 2 n new; 4 n look", "1 2; 2 1", "2 1", "done", "nothing"])
        self.check(SHEET + '\nfilters\nadd 4 "tea", 1\nsorts\ndelete 1\nwhy 1 n',
                   ["where price < 9 / figure n = count() over (by kind order price)", "refused Taken", "1",
                    "1 n gone; 4 n look", "refused NoRow"])
        error_in_all_forms(self, BadLine, {"number": 2}, answers, text="column kind text\nboard\nsell 1")

    def test_without_requests_figures_or_rows(self):
        self.check("column a text\nboard", [])
        self.check(SHEET, [])
        self.check("column a text\nboard\nfigures\nanswer\nsorts\nfilters\ncomputed\nundo\nwhy 0 a",
                   ["-", "-", "0", "", "0", "nothing", "refused NoColumn"])
        self.check('column a text\nrow 7 "b"\nrow 2 null\nboard\nfigures\nanswer\nadd 3 null\nfigures\n'
                   "delete 2\nundo\nfigures",
                   ["2; 7", "2; 7", "-", "2; 3; 7", "-", "done", "2; 3; 7"])
        self.check("column a text\nfigure f = row() over ()\nboard\nfigures\nanswer\nwhy 1 f",
                   ["-", "-", "refused NoRow"])

    def test_values(self):
        text = ('column a text\ncolumn b number\nrow 0 "q""q", -5\nrow 10 null, null\nrow 3 "", 0\n'
                'figure first = first(a) over (order b first)\nfigure mean = mean(b) over ()\n'
                'figure order = percent() over (order b down last)\n'
                'figure last = last(a, passed) over (order b)\nboard\n')
        text = text.replace("figure first", "figure .first").replace("figure order", "figure .order")
        text = text.replace("figure last", "figure .last")
        self.check(text + "figures", ['0 null -5/2 1/2 "q""q"; 3 null -5/2 0/1 ""; 10 null -5/2 1/1 ""'])
        self.check(text + 'add 5 "b", 1',
                   ["0 mean look; 0 order look; 3 mean look; 3 order look; 5 first new; 5 last new; 5 mean new; "
                                           "5 order new; 10 last look; 10 mean look; 10 order look"])
        self.check(text + "filters", [text.split("\nboard")[0].split(", 0\n")[1].replace("\n", " / ")])

    def test_why(self):
        text = ('column a text\ncolumn b number\nrow 1 "x", 3\nrow 2 "x", 1\nrow 3 "y", 2\nrow 4 "x", null\n'
                'figure p = percent() over (by a order b)\nfigure d = dense() over (by a order b)\n'
                "figure s = sum(b) if b > 1 over (by a order b)\nfigure e = earlier(b, 1) over (by a order b)\n"
                "where b is not null\nboard\n")
        self.check(text + "why 1 p\nwhy 2 p\nwhy 1 d\nwhy 2 d\nwhy 1 s\nwhy 2 s\nwhy 1 e\nwhy 2 e\nwhy 3 .p\nwhy 3 s",
                   ["2; 2 1", "-; 2 1", "2", "-", "1", "-", "2", "-", "-; 3", "3"])
        self.check(text + "why 4 p\nwhy 9 p\nwhy 1 a\nwhy 9 a\nwhy 9 z\nchange 4 \"y\", 9\nwhy 4 p",
                   ["refused NoRow", "refused NoRow", "refused NoColumn", "refused NoColumn", "refused NoColumn",
                    "3 p look; 4 d new; 4 e new; 4 p new; 4 s new", "3; 3 4"])

    def test_refusals_leave_all_as_it_was(self):
        wrong = ['add 1 "tea", 3', 'add 1 "tea"', 'add 9 "tea"', 'add 9 "tea", "3"', "add 9 3, 3",
                 "add 9 null, null, null",
                 "change 9 3", 'change 1 "tea", "x"', "change 1 null", "delete 9", "delete 999999999999999", "why 9 n",
                 "why 1 price"]
        names = ["Taken", "Taken", "BadCells", "BadCells", "BadCells", "BadCells", "NoRow", "BadCells", "BadCells",
                 "NoRow", "NoRow",
                 "NoRow", "NoColumn"]
        before = answers(SHEET + ALL)
        for request, name in zip(wrong, names):
            found = answers(SHEET + "\n" + request + ALL + "\n" + request + "\nundo")
            self.assertEqual(found, ["refused " + name, *before, "refused " + name, "nothing"])

    def test_undo(self):
        self.check(SHEET + "\nundo\nadd 2 null, 5\nchange 2 null, 6\ndelete 1" + 4 * "\nundo" + "\nfigures\ncomputed",
                   ["nothing", "2 n new", "-", "1 n gone; 4 n look", "done", "done", "done", "nothing", "1 1; 4 2",
                    "4"])

    def test_requests_of_the_same_sheet_again(self):
        text = SHEET + ALL + '\nadd 2 "tea", 1\n' + "delete 1" + ALL
        first = answers(text)
        first_copy = list(first)
        first.clear()
        self.check(text, first_copy)

    def test_lines_and_blanks(self):
        text = SHEET.replace("\n", "\n\n  \n").replace("(by kind", "( by  .kind") + "\n\n  figures  \n why  1  .n\n"
        self.check(text, ["1 1; 4 2", "1"])
        self.check("column.column text\ncolumn text text\ncolumn number number\ncolumn .row number\n"
                   'column board text\ncolumn undo text\nrow 1 "a","b",3,4,null,"c"\n'
                   "figure why=first(undo)over(by column,.row)\nboard\nfigures\nwhy 1 why\nwhy 1 .undo",
                   ['1 "c"', "1", "refused NoColumn"])

    def test_rows_in_any_order(self):
        self.check("column a number\nrow 9 1\nrow 2 3\nrow 4 null\nfigure r = row() over (order a)\norder r\n"
                   "board\nanswer\nfigures",
                   ["9 1; 2 2; 4 3", "2 2; 4 3; 9 1"])

    def test_sorts_and_filters(self):
        text = ("column a number\ncolumn b number\nfigure x = row() over (by a order b)\n"
                "figure y = rank() over (order b)\nwindow w = by a\nfigure z = count() over w\n"
                "keep a = 1 and x < 3 and b is not null\norder b down last\nboard\n")
        self.check(text + "sorts\nfilters",
                   ["2", "figure x = row() over (by a order b) / figure y = rank() over (order b)"
                         " / figure z = count() over (by a)"
                         " / keep a = 1 and x < 3 and not b is null / order b down last"])
        self.check('column a number\nwhere a = 1\nkeep a > 0\nboard\nfilters', ["where a = 1 and a > 0"])


class Errors(unittest.TestCase):
    def bad(self, text, number):
        with self.subTest(text=text):
            with self.assertRaises(BadLine) as caught:
                answers(text)
            self.assertEqual(caught.exception.number, number)

    def test_board_is_missing(self):
        self.bad("", 1)
        self.bad("\n", 2)
        self.bad("  ", 1)
        self.bad("column a text", 1)
        self.bad("column a text\n\n", 3)
        self.bad('column a text\nrow 1 "b"\nwhere a = "b"', 3)
        self.bad("column a text\ncolumn a text\nrow 1 2\nwhere z = 1", 4)

    def test_lines_that_stand_where_they_must_not(self):
        self.bad("board", 0)
        self.bad("\nrow 1 2\ncolumn a text\nboard", 1)
        self.bad("where 1 = 1\ncolumn a text\nboard", 0)
        self.bad("figures", 0)
        self.bad('column a text\nrow 1 "a"\ncolumn b text\nboard', 2)
        self.bad("column a text\nwhere a is null\nrow 1 null\nboard", 2)
        self.bad("column a text\nwhere a is null\ncolumn b text\nboard", 2)
        self.bad("column a text\nfigures\nboard", 1)
        self.bad("column a text\nadd 1 null\nboard", 1)
        self.bad("column a text\nboard\nboard", 2)
        self.bad("column a text\nboard\nundo\nboard", 3)
        for line in ("column b text", "row 1 null", "where a is null", "order a", "window w =", "keep a is null",
                     "figure f = row() over ()"):
            self.bad(f"column a text\nboard\n\n{line}", 3)
            self.bad(f"column a text\nboard\n\nsorts\n{line}", 4)

    def test_lines_that_are_not_so_written(self):
        for line in ("column", "column a", "column text", "column a words", "column a text number", "column a, b text",
                     "column row text",
                     "column abcdefghi text", "column 4 text", 'column "a" text', "column a .text", ".column a text",
                     "column = text"):
            self.bad(f"{line}\ncolumn a text\nboard", 0)
        for line in ("row", "row 1", 'row "b"', "row 1,", "row -1 null", "row 1/2 null", "row null null",
                     "row 01 null", "row 1 null,",
                     "row 1 null null", "row 1 b", "row 1 1/2", "row 1 (null)", "row 1 , null", "row 1 = null",
                     ".row 1 null",
                     "row 1234567890123456 null", "row 1 -0", "row one null", "where", "order", "window",
                     "where a = b = c", "nothing", "(",
                     "Board", "boards", "row 1null", 'row 1 "'):
            self.bad(f"column a text\n{line}\nboard", 1)
        for line in ("add", "add 1", "add null", "add -1 null", "add 1 null null", "add 1 a", "add 1 2/3",
                     "add 1, null", "change", "change 1",
                     "change 1 null,", "delete", "delete -1", "delete null", "delete 1 2", "delete 1, 2", "undo 1",
                     "undo undo", "figures 1",
                     "figures a", "answer a", "why", "why 1", "why a", "why a 1", "why 1 row", "why 1 a b", "why -1 a",
                     "why 1 abcdefghi",
                     "why 1, a", "sorts 1", "filters a", "computed 1", "computed()", "log", "table", ".undo", "undo ?",
                     '"undo"', "delete 1/1",
                     "delete 1234567890123456", "4", ","):
            self.bad(f"column a text\nboard\nundo\n{line}\nundo", 3)

    def test_the_first_bad_line_ahead_of_all_else(self):
        self.bad("column a text\ncolumn a text\nrow 1 2\nrow 1 2\nwhere z = 1\nboard\nadd 1 null\nsell 1", 7)
        self.bad("column a text\nrow 1 2,\nwhere =\nboard", 1)
        self.bad("column a text\nwhere a = ?\nboard\nsell", 1)
        self.bad("column a text\n#\nboard\nsell", 1)

    def test_errors_behind_each_other(self):
        def raises(wanted, attributes, text):
            error_in_all_forms(self, wanted, attributes, answers, text=text)
        columns = "column a text\ncolumn b number\n"
        raises(Twice, {"name": "a"}, f"{columns}column .a number\ncolumn b text\nrow 1 2\nwhere z = 1\nboard")
        raises(Twice, {"name": "b"}, f"{columns}column b number\ncolumn a text\nboard\nundo")
        raises(BadCells, {"cells": (1, 2)}, f"{columns}row 1 1, 2\nrow 1 1, 2\nwhere z = 1\nboard")
        raises(BadCells, {"cells": ("x",)}, f'{columns}row 1 "x"\nboard')
        raises(Taken, {"number": 1}, f"{columns}row 1 null, 2\nrow 1 1, 2\nwhere z = 1\nboard")
        raises(Taken, {"number": 3}, f"{columns}row 3 null, 2\nrow 1 null, 2\nrow 3 null, null\nrow 4 1, 1\nboard")
        raises(Misfit, {"number": 3}, f"{columns}\nwhere z = 1\nfigure a = row() over w\nboard")
        raises(Misfit, {"number": 2}, f"{columns}keep z = 1\nwhere b = 1\norder z\nboard")
        raises(Misfit, {"number": 4}, f"{columns}row 1 null, 2\n\norder z\nboard\nundo")
        raises(Twice, {"name": "where"}, f"{columns}where b = 1\nwhere z = 1\nboard")
        raises(NoWindow, {"name": "w"}, f"{columns}figure f = row() over w\nboard")
        raises(Fixed, {"name": "w"}, f"{columns}window w = by a\nfigure f = row() over (w by a)\nboard")
        raises(Twice, {"name": "a"}, f"{columns}figure a = row() over (w by a)\nboard")


class MadeSheets(unittest.TestCase):
    def text_of(self, table, query):
        lines = [f"column {name} {kind}" for name, kind in table[0]]
        lines += [f"row {number} {', '.join(long_value(cell) for cell in cells)}" for number, cells in table[1][::-1]]
        return "\n".join(lines + [query_text(query), "board"])

    def touches(self, table, later, query):
        return "; ".join(f"{number} {name} {reason}" for number, name, reason in touched(table, later, query)) or "-"

    def rows(self, pairs):
        return "; ".join(" ".join([str(number), *map(long_value, values)]) for number, values in pairs) or "-"

    def test_beside_the_functions(self):
        luck = random.Random(171)
        for _ in range(60):
            table, query = making.table(luck, luck.randrange(7)), making.query(luck, luck.choice((0, 1, 2, 3)))
            tables, board, lines, wanted = [table], Board(table, query), [], []
            for _ in range(12):
                now, number, cells = tables[-1], luck.randrange(12), making.cells(luck)
                word = luck.choice(("add", "add", "change", "change", "delete", "undo", "why"))
                if word == "undo":
                    lines.append("undo")
                    wanted.append("done" if len(tables) > 1 else "nothing")
                    board.undo()
                    del tables[max(1, len(tables) - 1):]
                elif word == "why":
                    name = luck.choice([figure[0] for figure in query[1]] + ["k"])
                    lines.append(f"why {number} {name}")
                    wanted.append(self.reason(now, query, number, name))
                else:
                    lines.append(f"{word} {number}" + ("" if word == "delete"
                                                       else " " + ", ".join(map(long_value, cells))))
                    done = {"add": added, "change": changed, "delete": deleted}[word]
                    try:
                        later = done(now, number, cells) if word != "delete" else done(now, number)
                    except (Taken, NoRow) as error:
                        wanted.append("refused " + type(error).__name__)
                    else:
                        wanted.append(self.touches(now, later, query))
                        tables.append(later)
                        board.do([(word, number, cells)[:2 if word == "delete" else 3]])
                lines += ["figures", "answer", "computed", "sorts", "filters"]
                now = tables[-1]
                filters = query_text(moved(now[0], query)).replace("\n", " / ")
                wanted += [self.rows(figures(now, query)),
                           self.rows((one, more) for one, _, more in answer(now, query)),
                           str(board.computed()), str(fewest_sorts(query[1])), filters]
            text = "\n".join([self.text_of(table, query)] + lines)
            self.assertEqual(answers(text), wanted)
            self.assertEqual(query_in(table[0], query_text(query)), query)

    def reason(self, table, query, number, name):
        named = [figure for figure in query[1] if figure[0] == name]
        if not named:
            return "refused NoColumn"
        columns, rows = table
        left = (columns, tuple(row for row in rows if query[0] is None or holds(columns, query[0], row[1]) is True))
        try:
            found = why(left, named[0], number)
        except NoRow:
            return "refused NoRow"
        return "; ".join(" ".join(map(str, counted)) or "-" for counted in found)


if __name__ == "__main__":
    unittest.main()
