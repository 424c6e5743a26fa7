"""Promise 1: what holds over the whole program, each guarantee beside the others."""

import random
import unittest

from overrows.desk import answers
from overrows.frames import line_of
from overrows.functions import call_value
from overrows.live import Board
from overrows.pages import spilled
from overrows.parting import parting, shows_parting
from overrows.parts import partitions
from overrows.passing import may_pass, moved
from overrows.plain import answer, figures, look, look_entries
from overrows.plans import apart, fewest_plan, fewest_sorts, is_plan, run_plan, shows_fewest
from overrows.reasons import look_shown, shows_why, why
from overrows.sums import state_value
from overrows.texts import named_text, query_in, query_text, same_query
from overrows.touched import touched
from overrows.ways import reckoned, ways_of
from tests import making
from tests.samples import RUNNING, SHOP, in_all_forms, listed, strict
from tests.test_plans import some_plan
from tests.words import answer_of, figures_of, holds

COLUMNS = making.COLUMNS


class Whole(unittest.TestCase):
    def made(self, seed, many, rows=9):
        luck = random.Random(seed)
        for _ in range(many):
            yield luck, making.table(luck, luck.randrange(rows)), making.query(luck, luck.choice((0, 1, 2, 3)))

    def test_every_plan_room_and_size_of_pages_gives_the_answer(self):
        for luck, table, query in self.made(11, 120):
            wanted = answer_of(table, query)
            self.assertEqual(answer(table, query), wanted)
            for plan in (fewest_plan(query[1]), tuple(some_plan(luck, query[1], COLUMNS))):
                self.assertTrue(is_plan(COLUMNS, query[1], plan))
                self.assertEqual(run_plan(table, query, plan), wanted)
                page = luck.choice((1, 2, 8))
                for room in (3 * page, 3 * page + 1, 40):
                    self.assertEqual(spilled(table, query, plan, room, page)[0], wanted)

    def test_every_text_tells_the_same_answer(self):
        for _, table, query in self.made(12, 80):
            wanted = answer(table, query)
            for text in (query_text(query), named_text(query)):
                self.assertEqual(answer(table, query_in(COLUMNS, text)), wanted)
            self.assertTrue(same_query(COLUMNS, query_text(query), named_text(query)))
            self.assertEqual(answer(table, moved(COLUMNS, query)), wanted)

    def test_every_way_to_reckon_gives_the_values(self):
        tried = 0
        for _, table, query in self.made(13, 250):
            for figure in query[1]:
                _, function, arguments, _, window = figure
                if function not in ("count", "sum", "mean", "least", "most", "joined"):
                    continue
                unlike = arguments[1:] == ("unlike",)
                for numbers in partitions(table, window):
                    line = line_of(table, window, numbers)
                    cells = tuple(look_entries(table, figure, number) for number in numbers)
                    wanted = [call_value(figure[1:3], look(table, figure, number)) for number in numbers]
                    for way in ways_of(function, unlike):
                        tried += 1
                        self.assertEqual(reckoned(function, unlike, cells, line, window[2], way)[0], wanted)
        self.assertGreater(tried, 300)

    def test_a_reason_tells_the_look_and_the_look_the_value(self):
        for _, table, query in self.made(14, 80):
            where, asked, _, _ = query
            left = (COLUMNS, tuple(row for row in table[1] if where is None or holds(COLUMNS, where, row[1]) is True))
            values = dict(figures_of(table, query))
            for place, figure in enumerate(asked):
                for number, _ in left[1]:
                    reason = why(left, figure, number)
                    self.assertTrue(shows_why(left, figure, number, reason))
                    shown = look_shown(left, figure, reason)
                    self.assertEqual(shown, look(left, figure, number))
                    self.assertEqual(call_value(figure[1:3], shown), values[number][place])

    def test_filters_pass_or_part(self):
        condition = ("compare", ("column", "a"), "<", ("plain", 2))
        order = (("a", "up", "last"),)
        for function in ("row", "rank", "dense", "percent", "share"):
            for nulls in ("first", "last"):
                figure = ("f", function, (), None, (("k",), ((*order[0][:2], nulls),), RUNNING))
                found = parting(COLUMNS, (figure,), condition)
                self.assertEqual(found is None, may_pass(COLUMNS, (figure,), condition))
                query = (None, (figure,), condition, ())
                early = (condition, (figure,), None, ())
                self.assertEqual(moved(COLUMNS, query), early if found is None else query)
                if found is not None:
                    self.assertTrue(shows_parting(COLUMNS, (figure,), condition, found))
                    self.assertNotEqual(answer(found, query), answer(found, early))

    def test_a_plan_with_the_fewest_sorts_is_found(self):
        for _, _, query in self.made(15, 150):
            plan = fewest_plan(query[1])
            self.assertEqual(len(plan), fewest_sorts(query[1]))
            self.assertTrue(shows_fewest(query[1], plan, apart(query[1])))

    def test_boards_and_desks_give_the_answer_of_the_definition(self):
        for luck, table, query in self.made(16, 40, 6):
            board = Board(table, query)
            lines = [f"column {name} {kind}" for name, kind in COLUMNS]
            lines += [query_text(query), "board"]
            lines += [f"add {number} {', '.join(self.cell(cell) for cell in cells)}" for number, cells in table[1]]
            found = answers("\n".join(lines + ["answer"]))[-1]
            self.assertEqual(found.split("; "),
                             [" ".join([str(row[0]), *map(self.cell, row[2])]) for row in answer(table, query)]
                             or ["-"])
            later = making.table(luck, 5)
            edits = [("delete", number) for number, _ in table[1]] + [("add", *row) for row in later[1]]
            self.assertEqual(board.do(edits), touched(table, later, query))
            self.assertEqual(board.answer(), answer_of(later, query))
            self.assertTrue(board.undo())
            self.assertEqual(board.answer(), answer_of(table, query))

    def cell(self, value):
        if isinstance(value, tuple):
            return f"{value[0]}/{value[1]}"
        return "null" if value is None else f'"{value}"' if isinstance(value, str) else str(value)

    def test_two_tables_and_boards_asked_in_turn(self):
        luck = random.Random(17)
        pairs = [(making.table(luck, 7), making.query(luck, 2)) for _ in range(2)]
        wanted = [(figures(*pair), answer(*pair), query_text(pair[1])) for pair in pairs]
        boards = [Board(*pair) for pair in pairs]
        for _ in range(3):
            for number, (table, query) in enumerate(pairs):
                found = (in_all_forms(self, figures, table=table, query=query),
                         in_all_forms(self, answer, table=table, query=query), query_text(query))
                self.assertEqual(strict(found), strict(wanted[number]))
                self.assertEqual((boards[number].figures(), boards[number].answer()), wanted[number][:2])
                boards[number].add(100, making.cells(luck))
                boards[number].undo()

    def test_returned_values_may_be_passed_in_again(self):
        figure = ("f", "nth", ("price", 50, "counted"), None,
                  ((), (("day", "up", "last"),), ("rows", ("start",), ("before", 50), "nobody")))
        condition = ("compare", ("column", "day"), "<>", ("plain", 3))
        table = parting(SHOP[0], (figure,), condition)
        self.assertEqual(len(table[1]), 100)
        query = (condition, (figure,), None, ())
        again = query_in(SHOP[0], named_text(query_in(SHOP[0], query_text(query))))
        self.assertEqual(again, query)
        plan = fewest_plan(again[1])
        found = spilled(table, again, plan, 6, 2)
        self.assertEqual(found[0], answer(table, again))
        self.assertEqual(strict(Board(listed(table), listed(again)).answer()), strict(found[0]))
        self.assertTrue(shows_why(table, figure, 99, why(table, figure, 99)))
        self.assertTrue(shows_parting(SHOP[0], (figure,), condition, table))

    def test_states_tell_the_value_of_no_rows(self):
        self.assertEqual(reckoned("sum", False, (), ("up", ()), RUNNING, "anew"), ([], 0))
        self.assertIs(state_value("joined", True, ()), None)


if __name__ == "__main__":
    unittest.main()
