"""Promises 1 (e) and 16: the rows behind each look."""

import itertools
import random
import unittest

from overrows.errors import NoRow
from overrows.plain import look
from overrows.reasons import look_shown, shows_why, why
from tests import making
from tests.samples import (
    ALL_SO_FAR, COLUMNS, NO_ROWS, RUNNING, SHOP, STRAY_VALUES, each_false, each_true, error_in_all_forms, in_all_forms,
    listed, one_part_more_or_less, one_part_replaced,
)
from tests.words import rows_behind

TOTAL = ("total", "sum", ("price",), None, ALL_SO_FAR)
DEAREST = (("price", "down", "last"),)
PLACE = ("place", "percent", (), None, ((), DEAREST, RUNNING))
EARLY = ("compare", ("column", "day"), "<", ("plain", 2))


def figure(function, arguments=(), condition=None, parts=(), order=(("day", "up", "last"),), frame=RUNNING):
    return ("f", function, arguments, condition, (parts, order, frame))


class Why(unittest.TestCase):
    def check(self, asked, wanted, number=4, table=SHOP):
        """Check the REASON of a row, that it is shown, and that its look follows from it."""
        reason = in_all_forms(self, why, table=table, figure=asked, number=number)
        self.assertEqual(reason, wanted)
        each_true(self, shows_why, [wanted], table=table, figure=asked, number=number)
        shown = in_all_forms(self, look_shown, table=table, figure=asked, reason=reason)
        self.assertEqual(shown, look(table, asked, number))

    def test_examples(self):
        self.check(TOTAL, ((1, 2, 4),))
        self.check(PLACE, ((4, 2, 1), (4, 2, 1, 3, 5)), 5)
        found = in_all_forms(self, look_shown, table=SHOP, figure=PLACE, reason=((4, 2, 1), (4, 2, 1, 3, 5)))
        self.assertEqual(found, (3, 5))
        each_true(self, shows_why, [((1, 2, 4),)], table=SHOP, figure=TOTAL, number=4)
        each_false(self, shows_why, [((2, 1, 4),)], table=SHOP, figure=TOTAL, number=4)
        each_false(self, shows_why, [((),)], table=SHOP, figure=TOTAL, number=9)

    def test_ranks(self):
        # By day the rows stand so: 1 and 3, 2 and 5, 4.
        self.check(figure("row"), ((1, 3, 2),), 5)
        self.check(figure("rank"), ((1, 3),), 5)
        self.check(figure("dense"), ((1,),), 5)
        self.check(figure("dense"), ((1, 2),), 4)
        self.check(figure("percent"), ((1, 3), (1, 3, 2, 5, 4)), 2)
        self.check(figure("share"), ((1, 3, 2, 5), (1, 3, 2, 5, 4)), 2)
        self.check(figure("tile", (2,)), ((1, 3, 2), (1, 3, 2, 5, 4)), 5)
        for function in ("row", "rank", "dense"):
            self.check(figure(function), ((),), 1)

    def test_rows_alone_in_their_partition(self):
        columns = SHOP[0]
        table = (columns, ((7, ("tea", 1, None)), (9, ("rice", 2, 2))))
        for function, wanted in (("row", ((),)), ("rank", ((),)), ("dense", ((),)), ("percent", ((), (7,))),
                                 ("share", ((7,), (7,))), ("tile", ((), (7,)))):
            self.check(figure(function, (2,) if function == "tile" else (), parts=("kind",)), wanted, 7, table)
        self.check(figure("sum", ("price",), parts=("kind",)), ((7,),), 7, table)
        self.check(figure("count", (), parts=("kind",), frame=("rows", ("start",), ("end",), "row")), ((),), 7, table)
        self.check(figure("earlier", ("price", 1, 5, "counted"), parts=("kind",)), ((),), 9, table)

    def test_offsets(self):
        self.check(figure("earlier", ("price", 1, 0, "counted")), ((3,),), 2)
        self.check(figure("earlier", ("price", 0, 0, "passed")), ((2,),), 2)
        self.check(figure("earlier", ("price", 9, 0, "counted")), ((),), 2)
        self.check(figure("later", ("day", 2, 0, "counted")), ((4,),), 2)
        self.check(figure("later", ("day", 2, 0, "passed"), order=()), ((5,),), 2)
        self.check(figure("first", ("kind", "counted"), frame=("rows", ("before", 1), ("here",), "row")), ((3,),), 2)
        self.check(figure("last", ("day", "passed"), frame=("rows", ("start",), ("end",), "nobody")), ((5,),), 1)
        self.check(figure("last", ("day", "counted"), frame=("rows", ("start",), ("end",), "nobody")), ((4,),), 1)
        self.check(figure("nth", ("price", 3, "counted")), ((2,),), 5)
        self.check(figure("nth", ("price", 5, "counted")), ((),), 5)

    def test_sums(self):
        everything = ("rows", ("start",), ("end",), "nobody")
        self.check(figure("count", (), EARLY, frame=everything), ((1, 3),), 4)
        self.check(figure("count", ("day",), frame=everything), ((1, 3, 2, 5),), 4)
        self.check(figure("count", ("kind", "unlike"), frame=everything), ((1, 3, 2, 5, 4),), 4)
        self.check(figure("joined", ("kind", "unlike"), EARLY, frame=everything, order=DEAREST), ((1, 3),), 4)
        self.check(figure("sum", ("day",), ("null", ("column", "day")), frame=everything), ((),), 4)
        self.check(figure("least", ("price",), frame=("rows", ("start",), ("end",), "ties")), ((1, 3, 2, 4),), 2)
        self.check(figure("mean", ("price",), frame=("groups", ("before", 1), ("before", 1), "nobody")), ((2, 5),), 4)

    def test_no_row(self):
        for asked in (TOTAL, PLACE, figure("earlier", ("price", 1, 0, "counted"))):
            for number in (0, 6, 10 ** 20):
                error_in_all_forms(self, NoRow, {"number": number}, why, table=SHOP, figure=asked, number=number)
                each_false(self, shows_why, [((),), ((), ()), (), None], table=SHOP, figure=asked, number=number)
            error_in_all_forms(self, NoRow, {"number": 1}, why, table=NO_ROWS, figure=asked, number=1)

    def test_conditions_are_not_asked_again(self):
        asked = figure("sum", ("price",), EARLY)
        self.assertEqual(look_shown(SHOP, asked, ((1, 2, 5),)), (3, 4, 2))
        self.assertEqual(look_shown(SHOP, figure("count", (), EARLY), ((4, 2),)), (1, 1))


class ShowsWhy(unittest.TestCase):
    def test_stray_values(self):
        for asked, number in ((TOTAL, 4), (PLACE, 5), (PLACE, 4), (figure("row"), 1)):
            reason = why(SHOP, asked, number)
            strays = [value for value in STRAY_VALUES if value != reason]
            each_false(self, shows_why, strays + [listed(reason), list(reason), tuple(listed(one) for one in reason)],
                       table=SHOP, figure=asked, number=number)

    def test_one_part_changed(self):
        for asked, number in ((TOTAL, 4), (PLACE, 5), (figure("share"), 2), (figure("dense"), 4)):
            reason = why(SHOP, asked, number)
            others = (None, True, False, 0, 1, 2, 9, "1", (), (1,), [1], ((),))
            for thing in [*one_part_replaced(reason, others), *one_part_more_or_less(reason)]:
                same = repr(thing) == repr(reason)
                self.assertIs(shows_why(SHOP, asked, number, thing), same, thing)

    def test_true_is_no_number(self):
        table = (COLUMNS, ((0, ("tea", 1, 1)), (1, ("tea", 1, 1))))
        each_true(self, shows_why, [((0, 1),)], table=table, figure=TOTAL, number=1)
        each_false(self, shows_why, [((0, True),), ((False, 1),)], table=table, figure=TOTAL, number=1)

    def test_only_one_of_all_reasons_is_shown(self):
        table = (COLUMNS, SHOP[1][:3])
        numbers = (1, 2, 3)
        counted = [one for many in range(4) for one in itertools.permutations(numbers, many)]
        for asked in (TOTAL, figure("row"), PLACE, figure("share"), figure("last", ("kind", "counted"))):
            width = len(why(table, asked, 1))
            for number in numbers:
                shown = [thing for thing in itertools.product(counted, repeat=width) if shows_why(table, asked, number,
                                                                                                  thing)]
                self.assertEqual(shown, [why(table, asked, number)])


class MadeReasons(unittest.TestCase):
    def test_beside_the_definition(self):
        luck = random.Random(161)
        for _ in range(250):
            table, asked = making.table(luck, luck.randrange(1, 9)), making.figure(luck)
            for number, _ in table[1]:
                reason = why(table, asked, number)
                self.assertEqual(reason, rows_behind(table, asked, number)[0])
                self.assertEqual(look_shown(table, asked, reason), look(table, asked, number))
                self.assertIs(shows_why(table, asked, number, reason), True)
                self.assertIs(shows_why(table, asked, number, reason + ((),)), False)


if __name__ == "__main__":
    unittest.main()
