"""Promises 1 (a) and (d), 2 and 14: runs, merges and pages."""

import functools
import itertools
import random
import unittest

from overrows.errors import NoRoom, Unserved
from overrows.needs import needs
from overrows.orders import ordered
from overrows.pages import merges, moved_by, runs, shows_merges, spilled
from overrows.plain import answer
from overrows.plans import fewest_plan, run_plan
from tests import making
from tests.samples import (
    ALL_SO_FAR, COLUMNS, NO_ROWS, RUNNING, SHOP, STRAY_VALUES, each_false, each_true, error_in_all_forms, in_all_forms,
    listed, one_part_more_or_less, one_part_replaced, strict,
)
from tests.test_plans import some_plan
from tests.words import holds, in_order, rows_behind

TOTAL = ("total", "sum", ("price",), None, ALL_SO_FAR)
TOTAL_AGAIN = ("again", *TOTAL[1:])
BY_PRICE = (("price", "up", "last"),)
BY_DAY = (("kind", "up", "last"), ("day", "up", "last"))
TEA = ("compare", ("column", "kind"), "=", ("plain", "tea"))


def prices(*values):
    return (COLUMNS, tuple((number, ("tea", value, number)) for number, value in enumerate(values)))


def runs_in_words(table, sort, room, page):
    """The runs by the words of the document, with the rows themselves put in order each time."""
    columns, rows = table
    coming, held, found = list(rows), [], []
    while coming or held:
        while coming and len(held) < room - 2 * page:
            held.append(coming.pop(0))
        fitting = held
        if found:
            last = found[-1][-1]
            fitting = [row for row in held if in_order(columns, sort, [last, row])[0] == last]
        if not found or not fitting:
            found.append([])
            fitting = held
        out = in_order(columns, sort, fitting)[0]
        held.remove(out)
        found[-1].append(out)
    return [[row[0] for row in run] for run in found]


@functools.lru_cache(maxsize=None)
def fewest_moved(lengths, most):
    """The fewest rows that any MERGES move, searched through all of them."""
    if len(lengths) == 1:
        return 0
    found = []
    for many in range(2, most + 1):
        for taken in set(itertools.combinations(lengths, many)):
            left = list(lengths)
            for length in taken:
                left.remove(length)
            found.append(sum(taken) + fewest_moved(tuple(sorted(left + [sum(taken)])), most))
    return min(found)


def all_merges(many, most):
    """All MERGES of so many runs."""
    def further(left, following):
        if len(left) == 1:
            yield []
        for size in range(2, most + 1):
            for taken in itertools.combinations(left, size):
                rest = [number for number in left if number not in taken] + [following]
                for more in further(rest, following + 1):
                    yield [taken] + more
    return list(further(list(range(many)), many))


class Runs(unittest.TestCase):
    def check(self, table, sort, room, page, wanted):
        self.assertEqual(strict(in_all_forms(self, runs, table=table, sort=sort, room=room, page=page)), strict(wanted))

    def test_example(self):
        self.check(SHOP, BY_PRICE, 4, 1, [[1, 2, 4], [3, 5]])
        error_in_all_forms(self, NoRoom, {"room": 5}, runs, table=SHOP, sort=BY_PRICE, room=5, page=2)

    def test_a_room_that_is_just_large_enough(self):
        self.check(SHOP, BY_PRICE, 3, 1, [[1, 2], [3, 4], [5]])
        self.check(SHOP, BY_PRICE, 6, 2, [[1, 2, 4], [3, 5]])
        self.check(SHOP, BY_PRICE, 40, 8, [[3, 5, 1, 2, 4]])

    def test_orders(self):
        self.check(prices(1, 2, 3, 4, 5), BY_PRICE, 3, 1, [[0, 1, 2, 3, 4]])
        self.check(prices(5, 4, 3, 2, 1), BY_PRICE, 3, 1, [[0], [1], [2], [3], [4]])
        self.check(prices(5, 4, 3, 2, 1), BY_PRICE, 4, 1, [[1, 0], [3, 2], [4]])
        self.check(prices(7, 7, 7, 7), BY_PRICE, 3, 1, [[0, 1, 2, 3]])
        self.check(prices(None, None, 7, None), BY_PRICE, 3, 1, [[0, 1], [2, 3]])
        self.check(prices(None, 1, None), (("price", "down", "first"),), 3, 1, [[0, 1], [2]])
        self.check(NO_ROWS, BY_PRICE, 3, 1, [])
        self.check(prices(4), BY_PRICE, 24, 8, [[0]])

    def test_beside_the_words(self):
        luck = random.Random(141)
        for _ in range(200):
            table, sort = making.table(luck, luck.randrange(16)), making.order(luck,
                                                                               longest=3) or (("a", "up", "last"),)
            page = luck.choice((1, 1, 2, 3))
            room = 3 * page + luck.randrange(5)
            found = runs(table, sort, room, page)
            self.assertEqual(found, runs_in_words(table, sort, room, page))
            for run in found[:-1]:
                self.assertGreaterEqual(len(run), room - 2 * page)
            for run in found:
                left = (table[0], tuple(row for row in table[1] if row[0] in run))
                self.assertEqual(run, ordered(left, sort))

    def test_every_answer_is_a_new_list(self):
        found = runs(SHOP, BY_PRICE, 4, 1)
        found[0].clear()
        found.clear()
        self.assertEqual(runs(SHOP, BY_PRICE, 4, 1), [[1, 2, 4], [3, 5]])


class Merges(unittest.TestCase):
    def test_examples(self):
        given = {"lengths": [3, 2, 4, 1], "merges": [(1, 3), (0, 2, 4)]}
        self.assertEqual(in_all_forms(self, moved_by, **given), 13)
        each_false(self, shows_merges, [[(0, 1, 3), (2, 4)]], lengths=[3, 2, 4, 1], room=4, page=1)

    def test_one_run(self):
        for room, page in ((3, 1), (40, 1), (24, 8)):
            self.assertEqual(in_all_forms(self, merges, lengths=[7], room=room, page=page), [])
            each_true(self, shows_merges, [[]], lengths=[7], room=room, page=page)
            each_false(self, shows_merges, [[()], [(0,)], (), None, [(0, 0)], [(0, 1)]], lengths=[7], room=room,
                       page=page)
        self.assertEqual(moved_by([7], []), 0)

    def test_beside_a_search_through_all(self):
        luck = random.Random(142)
        for many in range(1, 8):
            for most in (2, 3, 4, 5):
                for _ in range(6):
                    lengths = [luck.choice((1, 1, 2, 3, 5, 8, 20)) for _ in range(many)]
                    found = merges(lengths, most + 1, 1)
                    self.assertEqual(moved_by(lengths, found), fewest_moved(tuple(sorted(lengths)), most))
                    self.assertIs(shows_merges(lengths, most + 1, 1, found), True)

    def test_how_many_are_merged_at_a_time(self):
        lengths = list(range(1, 9))
        for room, page, most in ((3, 1, 2), (8, 2, 3), (9, 2, 3), (10, 2, 4), (40, 8, 4), (40, 1, 39)):
            found = in_all_forms(self, merges, lengths=lengths, room=room, page=page)
            self.assertIs(type(found), list)
            self.assertEqual(max(len(numbers) for numbers in found), min(most, 8))
            self.assertEqual(moved_by(lengths, found), fewest_moved(tuple(lengths), most))
            each_true(self, shows_merges, [found], lengths=lengths, room=room, page=page)

    def test_all_merges_of_few_runs(self):
        for lengths in ([1, 1], [3, 2, 1], [3, 2, 4, 1], [2, 2, 2, 1], [5, 1, 1, 1, 1]):
            for most in (2, 3, 4):
                fewest = fewest_moved(tuple(sorted(lengths)), most)
                for thing in all_merges(len(lengths), most):
                    shows = moved_by(lengths, thing) == fewest
                    self.assertIs(shows_merges(lengths, most + 1, 1, thing), shows, (lengths, most, thing))
                    self.assertIs(shows_merges(tuple(lengths), most + 1, 1, tuple(thing)), False)
                    self.assertIs(shows_merges(lengths, most + 1, 1, [list(numbers) for numbers in thing]), False)
        self.assertFalse(shows_merges([3, 2, 1], 3, 1, [(0, 1, 2)]))
        self.assertTrue(shows_merges([3, 2, 1], 4, 1, [(0, 1, 2)]))

    def test_wrong_things(self):
        lengths, right = [3, 2, 4, 1], [(1, 3), (0, 2, 4)]
        each_true(self, shows_merges, [right], lengths=lengths, room=4, page=1)
        each_false(self, shows_merges, STRAY_VALUES + [listed(right), tuple(right), right[:1], right + [(5,)],
                                                       right + [()],
                                                       right + [(5, 6)], [(0, 1, 2, 3)], [(1, True), (0, 2, 4)]],
                   lengths=lengths, room=4, page=1)
        changed = [list(thing) for thing in one_part_replaced(tuple(right),
                                                              (None, True, False, 0, 1, 2, 3, 4, 5, -1, "1", (),
                                                               (0, 1)))
                   if isinstance(thing, tuple)]
        changed += [list(thing) for thing in one_part_more_or_less(tuple(right))]
        for thing in changed:
            same = repr(thing) == repr(right)
            self.assertIs(shows_merges(lengths, 4, 1, thing), same, thing)
        ones = [[(0, True), (2, 3)], [(False, 1), (2, 3)], [(1, 0), (2, 3)], [(0, 0), (1, 2)], [(0, 3), (1, 2)],
                [(0, 1), (0, 2)]]
        each_false(self, shows_merges, ones, lengths=[1, 1, 1], room=3, page=1)
        # These move as few rows as possible, but two at a time is all that the room is for.
        each_false(self, shows_merges, [[(0,), (3,), (1, 2, 4)]], lengths=[1, 1, 1], room=3, page=1)
        each_false(self, shows_merges, [[(0, 1, 2), (3, 5), (4, 6)]], lengths=[1] * 5, room=3, page=1)
        each_true(self, shows_merges, [[(0, 1), (2, 3)], [(1, 2), (0, 3)]], lengths=[1, 1, 1], room=3, page=1)

    def test_no_room(self):
        for function, arguments in ((merges, {"lengths": [1, 2]}), (runs, {"table": SHOP, "sort": BY_PRICE})):
            for room, page in ((2, 1), (1, 1), (5, 2), (23, 8)):
                error_in_all_forms(self, NoRoom, {"room": room}, function, **arguments, room=room, page=page)
        for thing in (None, [], [(0, 1)], [(0, 1, 2)]):
            with self.assertRaises(NoRoom):
                shows_merges([1, 2], 2, 1, thing)

    def test_every_answer_is_a_new_list(self):
        lengths = [3, 2, 4, 1]
        merges(lengths, 4, 1).clear()
        self.assertEqual(len(merges(lengths, 4, 1)), 2)
        self.assertEqual(lengths, [3, 2, 4, 1])


def fetches(places_by_row, most, page):
    """How many pages are fetched, with the moment of the last use of each page that is held."""
    last_use, moment, found = {}, 0, 0
    for places in places_by_row:
        for place in places:
            if place // page not in last_use:
                found += 1
                if len(last_use) == most:
                    del last_use[min(last_use, key=last_use.get)]
            last_use[place // page] = moment
            moment += 1
    return found


def places_read(left, figure, sort):
    """The places that are read, row by row in the order of a SORT, by the definition."""
    columns, rows = left
    _, function, arguments, _, window = figure
    numbers = [row[0] for row in in_order(columns, sort, rows)]
    # Along the SORT rows that are equal in the window's order may stand in another order; its own order is told so.
    along = (columns, tuple((numbers.index(row[0]), row[1]) for row in rows))
    along = (columns, tuple(sorted(along[1])))
    found = []
    for place in range(len(numbers)):
        if function in ("row", "rank", "dense", "percent", "share", "tile"):
            found.append([])
        elif function in ("earlier", "later"):
            shown = rows_behind(along, figure, place)[0][0]
            everyone = ("f", "count", (), None, (window[0], window[1], ("rows", ("start",), ("end",), "nobody")))
            partition = rows_behind(along, everyone, place)[0][0]
            end = shown[0] if shown else partition[0] if function == "earlier" else partition[-1]
            found.append(list(range(min(place, end), max(place, end) + 1)))
        else:
            everyone = ("f", "count", (), None, window)
            found.append(sorted(rows_behind(along, everyone, place)[0][0]))
    return found


def first_serving(figure, plan):
    """The first SORT of a PLAN that serves the FIGURE, () without a NEED."""
    if not needs((figure,)):
        return ()
    for place in range(len(plan)):
        try:
            run_plan((making.COLUMNS, ()), (None, (figure,), None, ()), plan[place:place + 1])
        except Unserved:
            continue
        return plan[place]


class Spilled(unittest.TestCase):
    def check(self, query, plan, room, page, moved, fetched, table=SHOP):
        found = in_all_forms(self, spilled, table=table, query=query, plan=plan, room=room, page=page)
        self.assertEqual(strict(found[0]), strict(answer(table, query)))
        self.assertEqual(found[1:], (moved, fetched))
        self.assertIs(type(found), tuple)

    def test_example(self):
        self.check((None, (TOTAL,), None, ()), (BY_DAY,), 3, 1, 13, 5)

    def test_figures_that_read_nothing_one_row_or_all(self):
        everything = ("range", ("start",), ("end",), "nobody")
        for frame, fetched in ((everything, 5), (("rows", ("here",), ("here",), "nobody"), 5),
                               (("rows", ("after", 1), ("here",), "nobody"), 0),
                               (("rows", ("before", 1), ("before", 1), "nobody"), 4)):
            for condition in (None, TEA):
                self.check((None, (("f", "count", (), condition, ((), (), frame)),), None, ()), (), 15, 1, 0, fetched)
        whole = ("f", "count", (), None, ((), (), everything))
        # With room for three pages of one row each of five rows falls out before it is read again.
        self.check((None, (whole,), None, ()), (), 3, 1, 0, 25)
        self.check((None, (whole,), None, ()), (), 4, 1, 0, 25)
        self.check((None, (whole,), None, ()), (), 5, 1, 0, 5)
        self.check((None, (whole,), None, ()), (), 6, 2, 0, 3)
        self.check((None, (("f", "row", (), None, ((), (), everything)),), None, ()), (), 3, 1, 0, 0)
        self.check((None, (), None, ()), (), 3, 1, 0, 0)

    def test_offsets(self):
        for function, number, fetched in (("earlier", 0, 5), ("earlier", 1, 5), ("later", 1, 5), ("earlier", 2, 5),
                                          ("earlier", 9, 7),
                                          ("later", 9, 7)):
            asked = ("f", function, ("price", number, None, "counted"), None, ((), (), RUNNING))
            with self.subTest(function=function, number=number):
                found = spilled(SHOP, (None, (asked,), None, ()), (), 4, 1)
                wanted = fetches(places_read(SHOP, asked, ()), 4, 1)
                self.assertEqual(found[1:], (0, wanted))
        passed = ("f", "earlier", ("day", 1, None, "passed"), None, ((), (), RUNNING))
        self.check((None, (passed,), None, ()), (), 3, 1, 0, 5)

    def test_several_figures_and_sorts(self):
        other = ("other", "rank", (), None, ((), BY_PRICE, RUNNING))
        third = ("third", "row", (), None, ((), BY_PRICE, RUNNING))
        self.check((None, (TOTAL, other, third), None, ()), (BY_DAY, BY_PRICE), 3, 1, 13 + 5 + 8, 5)
        self.check((None, (TOTAL, TOTAL_AGAIN), None, ()), (BY_DAY,), 3, 1, 13, 10)
        self.check((None, (TOTAL,), None, ()), (BY_DAY, BY_DAY, BY_PRICE), 3, 1, 13, 5)
        self.check((None, (TOTAL,), None, ()), (BY_PRICE, BY_DAY), 40, 8, 5, 1)
        self.check((None, (other,), None, ()), ((("price", "up", "last"), ("day", "up", "last")), BY_PRICE), 40, 8, 5,
                   0)

    def test_rows_that_where_does_not_keep(self):
        self.check((TEA, (TOTAL,), None, ()), (BY_DAY,), 3, 1, 3, 3)
        self.check((("not", TEA), (TOTAL,), TEA, ()), (BY_DAY,), 3, 1, 2, 2)
        self.check((("null", ("column", "kind")), (TOTAL,), None, ()), (BY_DAY,), 3, 1, 0, 0)
        self.check((None, (TOTAL,), None, ()), (BY_DAY,), 3, 1, 0, 0, NO_ROWS)

    def test_errors(self):
        query, need = (None, (TOTAL,), None, ()), (("kind",), (("day", "up", "last"),), True)
        error_in_all_forms(self, NoRoom, {"room": 5}, spilled, table=SHOP, query=query, plan=(), room=5, page=2)
        error_in_all_forms(self, Unserved, {"need": need}, spilled, table=SHOP, query=query, plan=(BY_PRICE,), room=6,
                           page=2)
        other = ("other", "rank", (), None, ((), BY_PRICE, RUNNING))
        error_in_all_forms(self, Unserved, {"need": ((), BY_PRICE, False)}, spilled,
                           table=NO_ROWS, query=(None, (TOTAL, other), None, ()), plan=(), room=3, page=1)

    def test_beside_the_words(self):
        luck = random.Random(143)
        for _ in range(120):
            query, table = making.query(luck, luck.choice((0, 1, 2, 3))), making.table(luck, luck.randrange(13))
            where, figures, _, _ = query
            plan = luck.choice((tuple(some_plan(luck, figures, making.COLUMNS)), fewest_plan(figures)))
            page = luck.choice((1, 1, 2, 3))
            room = 3 * page + luck.randrange(6)
            found = spilled(table, query, plan, room, page)
            self.assertEqual(found[0], run_plan(table, query, plan))
            self.assertEqual(found[0], answer(table, query))
            columns, rows = table
            left = (columns, tuple(row for row in rows if where is None or holds(columns, where, row[1]) is True))
            moved, fetched, sorts = 0, 0, []
            for figure in figures:
                sort = first_serving(figure, plan)
                fetched += fetches(places_read(left, figure, sort), room // page, page)
                if sort and sort not in sorts and left[1]:
                    sorts.append(sort)
                    lengths = [len(run) for run in runs_in_words(left, sort, room, page)]
                    moved += sum(lengths) + fewest_moved(tuple(sorted(lengths)), room // page - 1)
            self.assertEqual(found[1:], (moved, fetched))

    def test_frames_that_do_not_fall_fetch_no_page_twice(self):
        luck = random.Random(144)
        for _ in range(60):
            page, back, ahead = luck.choice((1, 2, 3)), luck.randrange(5), luck.randrange(5)
            room = page * (2 + (back + ahead + page - 1) // page)
            room = max(room, 3 * page)
            self.assertLessEqual(back + ahead + 1, (room // page - 1) * page + 1)
            frame = ("rows", ("before", back), ("after", ahead), "nobody")
            asked = ("f", "count", (), None, ((), (("a", "up", "last"),), frame))
            table = making.table(luck, 20)
            found = spilled(table, (None, (asked,), None, ()), ((("a", "up", "last"),),), room, page)
            self.assertEqual(found[2], (20 + page - 1) // page)


if __name__ == "__main__":
    unittest.main()
