"""Promises 1 (c), 2 and 15: boards that keep the figures of a query while rows are edited."""

import copy
import inspect
import random
import unittest

from overrows.errors import BadCells, NoOperation, NoRow, Taken
from overrows.live import Board
from overrows.plain import answer, figures
from overrows.tables import added, changed, deleted
from overrows.touched import touched
from tests import making
from tests.samples import ALL_SO_FAR, COLUMNS, NO_ROWS, RUNNING, SHOP, listed, strict
from tests.test_touched import touches_in_words
from tests.words import answer_of, figures_of

TOTAL = ("total", "sum", ("price",), None, ALL_SO_FAR)
PLACE = ("place", "percent", (), None, ((), (("price", "up", "last"),), RUNNING))
QUERY = (None, (TOTAL,), None, ())
TEA = ("compare", ("column", "kind"), "=", ("plain", "tea"))


def state(board):
    """All that the queries of a board return, but for the log."""
    return strict([board.table(), board.figures(), board.answer(), board.computed(), board.operations(), len(board),
                   repr(board)])


def seen(board):
    """All that the queries of a board return."""
    return state(board), strict(board.log())


class Operations(unittest.TestCase):
    def test_example(self):
        board = Board(SHOP, QUERY)
        self.assertEqual(board.add(6, ("rice", 1, 3)), [(6, "total", "new")])
        self.assertEqual(board.change(3, ("rice", 7, 1)),
                         [(3, "total", "look"), (5, "total", "look"), (6, "total", "look")])
        self.assertEqual(board.computed(), 9)
        self.assertEqual(board.change(4, ("tea", 5, None)), [])
        self.assertEqual(board.do([("delete", 1), ("add", 1, ("tea", 3, 1))]), [])
        self.assertEqual(board.computed(), 9)
        self.assertEqual(board.delete(4), [(4, "total", "gone")])
        self.assertIs(board.undo(), True)
        self.assertEqual(board.operations(), 4)
        self.assertEqual(repr(board), "Board(6 rows, 1 figures)")
        with self.assertRaises(NoRow) as caught:
            board.do([("delete", 1), ("delete", 1)])
        self.assertEqual(caught.exception.number, 1)

    def test_arguments_by_name_and_lists_for_tuples(self):
        calls = [("do", {"edits": [("add", 9, ("tea", 1, 1)), ("delete", 1)]}),
                 ("add", {"number": 7, "cells": ("a", 1, 2)}),
                 ("change", {"number": 7, "cells": ("b", None, 2)}), ("delete", {"number": 2})]
        plain, by_name, lists = Board(SHOP, QUERY), Board(query=QUERY, table=SHOP), Board(listed(SHOP), listed(QUERY))
        for name, arguments in calls:
            wanted = getattr(plain, name)(*arguments.values())
            self.assertEqual(strict(getattr(by_name, name)(**arguments)), strict(wanted))
            given = {key: listed(value) for key, value in arguments.items()}
            before = copy.deepcopy(given)
            self.assertEqual(strict(getattr(lists, name)(**given)), strict(wanted))
            self.assertEqual(strict(given), strict(before))
            for board in (by_name, lists):
                self.assertEqual(seen(board), seen(plain))
        self.assertEqual(seen(lists.as_of(many=2)), seen(plain.as_of(2)))

    def test_an_empty_list_of_edits_is_an_operation(self):
        board = Board(SHOP, QUERY)
        self.assertEqual(board.do([]), [])
        self.assertEqual((board.operations(), board.computed()), (1, 5))
        self.assertEqual(board.log(), [("in", "do"), ("out", "do")])
        self.assertEqual((board.undo(), board.undo()), (True, False))

    def test_several_edits_are_one_operation(self):
        board = Board(SHOP, QUERY)
        edits = [("add", 0, ("tea", 1, 0)), ("change", 0, ("salt", 1, 0)), ("delete", 5), ("add", 5, ("salt", 2, 0))]
        self.assertEqual(board.do(edits), [(0, "total", "new"), (5, "total", "look")])
        self.assertEqual(board.operations(), 1)
        self.assertTrue(board.undo())
        self.assertEqual(board.table(), SHOP)

    def test_do_with_one_edit_is_the_same_but_for_the_log(self):
        one, other = Board(SHOP, QUERY), Board(SHOP, QUERY)
        self.assertEqual(one.add(8, ("tea", 1, 1)), other.do([("add", 8, ("tea", 1, 1))]))
        self.assertEqual(one.change(8, ("tea", 2, 1)), other.do([("change", 8, ("tea", 2, 1))]))
        self.assertEqual(one.delete(1), other.do([("delete", 1)]))
        self.assertEqual(seen(one.twin()), seen(other.twin()))
        self.assertEqual(one.computed(), other.computed())
        self.assertEqual(one.log(), [("in", "add"), ("out", "add"), ("in", "change"), ("out", "change"),
                                     ("in", "delete"), ("out", "delete")])
        self.assertEqual(other.log(), [("in", "do"), ("out", "do")] * 3)

    def test_errors_of_the_first_edit_that_fails(self):
        def fails(wanted, attributes, name, *arguments):
            board = Board(SHOP, QUERY)
            board.add(6, ("rice", 1, 3))
            before = state(board)
            with self.assertRaises(wanted) as caught:
                getattr(board, name)(*arguments)
            self.assertIs(type(caught.exception), wanted)
            for key, value in attributes.items():
                self.assertEqual(strict(getattr(caught.exception, key)), strict(value))
            self.assertEqual(board.log(), [("in", "add"), ("out", "add"), ("in", name), ("out", name)])
            self.assertEqual(state(board), before)
        good = ("tea", 1, 1)
        fails(Taken, {"number": 3}, "add", 3, ("tea", "1", 1))
        fails(BadCells, {"cells": ("tea", "1", 1)}, "add", 9, ["tea", "1", 1])
        fails(BadCells, {"cells": ()}, "add", 9, [])
        fails(NoRow, {"number": 9}, "change", 9, ("tea", "1", 1))
        fails(BadCells, {"cells": ("tea", 1)}, "change", 3, ["tea", 1])
        fails(NoRow, {"number": 0}, "delete", 0)
        fails(NoRow, {"number": 2}, "do", [("add", 9, good), ("delete", 2), ("delete", 2), ("add", 9, good)])
        fails(Taken, {"number": 9}, "do", [("add", 9, good), ("add", 9, good), ("delete", 77)])
        fails(BadCells, {"cells": (1, 1, 1)}, "do", [("delete", 1), ("add", 1, [1, 1, 1]), ("delete", 1)])
        fails(NoRow, {"number": 1}, "do", [["delete", 1], ["change", 1, list(good)]])

    def test_undo_of_all_and_once_more(self):
        board = Board(SHOP, QUERY)
        self.assertIs(board.undo(), False)
        before = [seen(Board(SHOP, QUERY))]
        board = Board(SHOP, QUERY)
        values = [(board.table(), board.figures(), board.answer())]
        for number in range(10, 70):
            board.add(number, ("tea", number, 80 - number))
            values.append((board.table(), board.figures(), board.answer()))
        self.assertEqual(board.operations(), 60)
        computed = board.computed()
        for early in values[-2::-1]:
            self.assertIs(board.undo(), True)
            self.assertEqual((board.table(), board.figures(), board.answer()), early)
            self.assertEqual(board.computed(), computed)
        self.assertIs(board.undo(), False)
        self.assertEqual(board.log()[-2:], [("in", "undo"), ("out", "undo")])
        self.assertEqual(len(board.log()), 2 * 121)
        self.assertEqual(before, [seen(Board(SHOP, QUERY))])

    def test_computed_after_undo(self):
        board = Board(SHOP, (None, (TOTAL, PLACE), None, ()))
        self.assertEqual(board.computed(), 10)
        touches = board.add(6, ("tea", 0, 0))
        many = len([reason for _, _, reason in touches if reason != "gone"])
        self.assertEqual(board.computed(), 10 + many)
        board.undo()
        self.assertEqual(board.computed(), 10 + many)
        self.assertEqual(board.add(6, ("tea", 0, 0)), touches)
        self.assertEqual(board.computed(), 10 + 2 * many)
        self.assertEqual(board.twin().computed(), 12)

    def test_rows_that_where_does_not_keep(self):
        board = Board(SHOP, (TEA, (TOTAL,), None, ()))
        self.assertEqual((board.computed(), len(board), repr(board)), (3, 5, "Board(5 rows, 1 figures)"))
        self.assertEqual(board.add(6, ("rice", 1, 1)), [])
        self.assertEqual(board.change(6, ("tea", 1, 9)), [(4, "total", "look"), (6, "total", "new")])
        self.assertEqual(board.change(1, (None, 3, 1))[0], (1, "total", "gone"))
        self.assertEqual(board.figures(), figures(board.table(), (TEA, (TOTAL,), None, ())))


class Queries(unittest.TestCase):
    def test_without_figures_or_rows(self):
        board = Board(SHOP, (TEA, (), None, (("price", "down", "last"),)))
        self.assertEqual(board.figures(), [(1, ()), (2, ()), (4, ())])
        self.assertEqual([row[0] for row in board.answer()], [4, 2, 1])
        self.assertEqual((board.computed(), repr(board)), (0, "Board(5 rows, 0 figures)"))
        self.assertEqual(board.delete(1), [])
        empty = Board(NO_ROWS, QUERY)
        self.assertEqual((empty.figures(), empty.answer(), empty.computed(), len(empty)), ([], [], 0, 0))
        self.assertEqual(repr(empty), "Board(0 rows, 1 figures)")
        one = Board((COLUMNS, SHOP[1][:1]), (None, (TOTAL, PLACE), None, ()))
        self.assertEqual(repr(one), "Board(1 rows, 2 figures)")

    def test_as_of(self):
        board = Board(SHOP, QUERY)
        tables = [SHOP]
        for number in (7, 8, 9):
            board.add(number, ("tea", number, number))
            tables.append(board.table())
        for many in range(4):
            early = board.as_of(many)
            self.assertIs(type(early), Board)
            self.assertEqual((early.table(), early.operations(), early.log()), (tables[many], many, []))
            self.assertEqual(early.computed(), 5 + many)
            self.assertEqual(early.figures(), figures(tables[many], QUERY))
            for back in reversed(range(many)):
                self.assertIs(early.undo(), True)
                self.assertEqual(early.table(), tables[back])
            self.assertIs(early.undo(), False)
            self.assertEqual(early.log(), [("in", "undo"), ("out", "undo")] * (many + 1))
        self.assertEqual((board.operations(), board.table(), len(board.log())), (3, tables[3], 6))

    def test_no_operation(self):
        board = Board(SHOP, QUERY)
        board.do([])
        board.do([])
        board.undo()
        before = seen(board)
        for many in (-1, 2, 3, 10 ** 30, -10 ** 30):
            with self.assertRaises(NoOperation) as caught:
                board.as_of(many)
            self.assertIs(type(caught.exception), NoOperation)
            self.assertEqual(caught.exception.many, many)
            with self.assertRaises(NoOperation):
                board.as_of(many=many)
        self.assertEqual(seen(board), before)

    def test_twins_go_on_apart(self):
        board = Board(SHOP, QUERY)
        board.add(7, ("tea", 1, 1))
        twin = board.twin()
        self.assertTrue(board == twin and twin.operations() == 1 and twin.log() == [])
        twin.delete(1)
        self.assertFalse(board == twin)
        self.assertEqual(board.table(), added(SHOP, 7, ("tea", 1, 1)))
        board.delete(1)
        self.assertTrue(board == twin)
        board.undo()
        board.undo()
        self.assertEqual((board.operations(), twin.operations(), twin.table()[1][0][0]), (0, 2, 2))
        early = twin.as_of(1)
        early.change(2, ("rice", 1, 1))
        self.assertEqual(twin.table(), deleted(added(SHOP, 7, ("tea", 1, 1)), 1))
        self.assertEqual(seen(twin.twin().twin()), seen(twin.twin()))

    def test_equality(self):
        board = Board(SHOP, QUERY)
        self.assertTrue(board == Board(listed(SHOP), listed(QUERY)))
        self.assertFalse(board != Board(SHOP, QUERY))
        self.assertFalse(board == Board(deleted(SHOP, 1), QUERY))
        self.assertFalse(board == Board(SHOP, (TEA, *QUERY[1:])))
        self.assertFalse(board == Board(SHOP, (None, (TOTAL, PLACE), None, ())))
        for other in (SHOP, QUERY, (SHOP, QUERY), None, 5, "Board(5 rows, 1 figures)", repr(board), [board], True):
            self.assertFalse(board == other)
            self.assertTrue(board != other)
        changed_back = Board(SHOP, QUERY)
        changed_back.delete(1)
        self.assertFalse(changed_back == board)
        changed_back.add(1, ("tea", 3, 1))
        self.assertTrue(changed_back == board)
        self.assertEqual(len(board), 5)

    def test_arguments_that_are_changed_afterwards(self):
        table, query = listed(SHOP), listed((TEA, (TOTAL,), None, (("price", "up", "last"),)))
        board = Board(table, query)
        wanted = seen(board)
        table[1][0][1][1] = 99
        table[1].pop()
        query[1].clear()
        query[0] = None
        query[3][0][1] = "down"
        self.assertEqual(seen(board), wanted)
        edits = [["add", 7, ["tea", 1, 1]], ["delete", 1]]
        board.do(edits)
        board.add(8, cells := ["tea", 2, 2])
        wanted = seen(board)
        edits[0][2][1] = 99
        edits.clear()
        cells[1] = 99
        self.assertEqual(seen(board), wanted)
        board.undo()
        board.undo()
        self.assertEqual(strict(board.table()), strict(SHOP))

    def test_returned_lists_belong_to_the_caller(self):
        board = Board(SHOP, QUERY)
        touches = board.change(3, ("rice", 7, 1))
        wanted = seen(board)
        for found in (touches, board.figures(), board.answer(), board.log()):
            found.clear()
            found.append(None)
        self.assertEqual(seen(board), wanted)
        self.assertEqual(strict(board.table()), strict(changed(SHOP, 3, ("rice", 7, 1))))

    def test_methods_stand_in_the_class_itself(self):
        wanted = {
            "__init__": ["table", "query"], "do": ["edits"], "add": ["number", "cells"], "change": ["number", "cells"],
            "delete": ["number"], "undo": [], "table": [], "figures": [], "answer": [], "computed": [],
            "operations": [],
            "as_of": ["many"], "twin": [], "log": [], "__eq__": ["other"], "__len__": [], "__repr__": [],
        }
        for name, arguments in wanted.items():
            self.assertIn(name, vars(Board))
            self.assertEqual(list(inspect.signature(vars(Board)[name]).parameters), ["self", *arguments])


class MadeBoards(unittest.TestCase):
    def edit(self, luck, table):
        """An EDIT that may fail."""
        numbers = [number for number, _ in table[1]]
        number = luck.choice(numbers + [luck.randrange(30)])
        cells = luck.choice((making.cells(luck), dict(table[1]).get(number, making.cells(luck))))
        if luck.random() < 0.1:
            cells = cells[1:]
        return luck.choice((("add", number, cells), ("change", number, cells), ("delete", number)))

    def done(self, table, edits):
        for word, *arguments in edits:
            table = {"add": added, "change": changed, "delete": deleted}[word](table, *arguments)
        return table

    def step(self, luck, board, tables, query, log):
        """One operation on a board and on its tables; return how many figures must be computed."""
        if luck.random() < 0.25:
            self.assertIs(board.undo(), len(tables) > 1)
            del tables[max(len(tables) - 1, 1):]
            log += [("in", "undo"), ("out", "undo")]
            return 0
        edits = [self.edit(luck, tables[-1]) for _ in range(luck.choice((0, 1, 1, 1, 2, 3)))]
        name = edits[0][0] if len(edits) == 1 else "do"
        call = (lambda: getattr(board, name)(*edits[0][1:])) if len(edits) == 1 else (lambda: board.do(edits))
        log += [("in", name), ("out", name)]
        try:
            later = self.done(tables[-1], edits)
        except (Taken, NoRow, BadCells) as wanted:
            with self.assertRaises(type(wanted)) as caught:
                call()
            self.assertEqual(vars(caught.exception), vars(wanted))
            return 0
        found = call()
        self.assertEqual(found, touches_in_words(tables[-1], later, query))
        self.assertEqual(found, touched(tables[-1], later, query))
        tables.append(later)
        return len([reason for _, _, reason in found if reason != "gone"])

    def test_boards_beside_the_definition(self):
        luck = random.Random(152)
        for _ in range(25):
            query = making.query(luck, luck.choice((0, 1, 2, 3)))
            tables = [making.table(luck, luck.randrange(8))]
            board = Board(tables[0], query)
            computed, log = len(query[1]) * len(figures(tables[0], query)), []
            for _ in range(20):
                computed += self.step(luck, board, tables, query, log)
                self.assertEqual(board.table(), tables[-1])
                self.assertEqual(board.figures(), figures_of(tables[-1], query))
                self.assertEqual(board.answer(), answer_of(tables[-1], query))
                self.assertEqual((board.computed(), board.operations()), (computed, len(tables) - 1))
                self.assertEqual(board.log(), log)
                many = luck.randrange(len(tables))
                early = board.as_of(many)
                self.assertEqual(early, Board(tables[many], query))
                self.assertEqual(early.computed(), len(query[1]) * len(early.figures()))
                self.assertEqual(early.answer(), answer(tables[many], query))


if __name__ == "__main__":
    unittest.main()
