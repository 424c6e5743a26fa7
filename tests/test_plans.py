"""Promises 1, 2 and 12: plans, the answers along them, and as few sorts as possible."""

import itertools
import random
import unittest

from overrows.errors import Unserved
from overrows.needs import needs
from overrows.plain import answer
from overrows.plans import apart, fewest_plan, fewest_sorts, is_plan, run_plan, shows_fewest
from tests import making
from tests.samples import (
    ALL_SO_FAR, COLUMNS, NO_ROWS, RUNNING, SHOP, STRAY_VALUES, deep, each_false, each_true, error_in_all_forms,
    in_all_forms, listed, one_part_replaced,
)
from tests.test_needs import DOWN, UP, order_of, serves_in_words, sorts_of

TOTAL = ("total", "sum", ("price",), None, ALL_SO_FAR)
BY_DAY = (("kind",), order_of("day"), True)
FIRST = ("f", "rank", (), None, ((), order_of("kind"), RUNNING))
PLACE = ("place", "row", (), None, (("day", "kind"), order_of("price", way=DOWN), RUNNING))
BARE = ("bare", "count", (), None, ((), (), RUNNING))


def figure_for(need, name="f"):
    """A FIGURE with this NEED."""
    parts, order, tight = need
    return (name, "row" if tight else "rank", (), None, (parts, order, RUNNING))


def groupings(things):
    """Every way to split a list into groups."""
    if not things:
        yield []
        return
    for groups in groupings(things[1:]):
        yield [[things[0]]] + groups
        for place, group in enumerate(groups):
            yield groups[:place] + [[things[0]] + group] + groups[place + 1:]


def fewest_in_words(wanted, sorts):
    """The fewest groups of NEEDs that one SORT each can serve, searched among all groupings and these SORTs."""
    served = {need: {number for number, sort in enumerate(sorts) if serves_in_words(sort, need)} for need in wanted}
    return min(len(groups) for groups in groupings(wanted)
               if all(set.intersection(*[served[need] for need in group]) for group in groups))


def some_plan(luck, figures, columns):
    """A PLAN for these FIGUREs: a SORT for each NEED, with other parts' ways and further items, and more SORTs."""
    plan = []
    for parts, order, tight in needs(figures):
        ways = [(luck.choice(("up", "down")), luck.choice(("first", "last"))) for _ in columns]
        ahead = tuple((name, *way) for name, way in zip(luck.sample(parts, len(parts)), ways))
        used = [name for name, _, _ in ahead + order]
        left = [name for name, _ in columns if name not in used]
        more = 0 if tight else luck.randrange(len(left) + 1)
        plan.append(ahead + order + tuple((name, *way) for name, way in zip(luck.sample(left, more), ways)))
    for _ in range(luck.randrange(3)):
        names = luck.sample([name for name, _ in columns], luck.randrange(1, len(columns) + 1))
        plan.append(tuple((name, luck.choice(("up", "down")), "last") for name in names))
    luck.shuffle(plan)
    return tuple(plan)


class IsPlan(unittest.TestCase):
    def is_plan(self, figures, thing, columns=COLUMNS):
        return in_all_forms(self, is_plan, columns=columns, figures=figures, thing=thing)

    def test_one_sort(self):
        for sort, wanted in [
            (order_of("kind", "day"), True),
            (order_of("kind", way=DOWN) + order_of("day"), True),
            (order_of("kind", way=("up", "first")) + order_of("day"), True),
            (order_of("kind"), False),
            (order_of("day", "kind"), False),
            (order_of("kind") + order_of("day", way=DOWN), False),
            (order_of("kind", "day", "price"), False),
        ]:
            self.assertIs(self.is_plan((TOTAL,), (sort,)), wanted, sort)
        self.assertIs(self.is_plan((FIRST,), (order_of("kind", "day", "price"),)), True)
        self.assertIs(self.is_plan((FIRST,), (order_of("kind", "day", "days"),)), False)

    def test_further_sorts_in_any_order(self):
        sorts = [
            order_of("kind", "day"), order_of("price", way=DOWN), order_of("day", "kind", "price"), order_of("kind"),
        ]
        for chosen in itertools.permutations(sorts):
            self.assertIs(self.is_plan((TOTAL,), chosen), True)
            self.assertIs(self.is_plan((TOTAL, FIRST), chosen), True)
            self.assertIs(self.is_plan((TOTAL, PLACE), chosen), False)
        self.assertIs(self.is_plan((TOTAL,), tuple(sorts) + (sorts[0],)), True)

    def test_without_needs(self):
        for figures in [(), (BARE,)]:
            self.assertIs(self.is_plan(figures, ()), True)
            self.assertIs(self.is_plan(figures, (order_of("day"),)), True)
            self.assertIs(self.is_plan(figures, ((),)), False)
            self.assertIs(self.is_plan(figures, (order_of("days"),)), False)
        self.assertIs(self.is_plan((TOTAL, BARE), ()), False)

    def test_wrong_sorts(self):
        fine = order_of("kind", "day")
        for sort in [(), order_of("kind", "kind"), order_of("days"), order_of("kind", "day", "kind"), (("kind", "up"),),
                     (("kind", "up", "lost"),), (("kind", "under", "last"),), ("kind",), listed(fine), None, "kind", 1,
                     (("kind", True, "last"),), ((("kind",), "up", "last"),)]:
            self.assertIs(self.is_plan((TOTAL,), (fine, sort)), False, sort)
            self.assertIs(self.is_plan((TOTAL,), (sort, fine)), False, sort)
        things = STRAY_VALUES + [deep(16), listed((fine,)), [fine], fine]
        each_false(self, is_plan, things, columns=COLUMNS, figures=(TOTAL,))
        never = [True, False, None, [], (), ("x",) * 9, 1, "x"]
        things = one_part_replaced((fine, order_of("price")), never)
        each_false(self, is_plan, things, columns=COLUMNS, figures=(TOTAL, FIRST))


class RunPlan(unittest.TestCase):
    def test_example(self):
        plan = (order_of("kind", way=("down", "last")) + order_of("day"),)
        found = in_all_forms(self, run_plan, table=SHOP, query=(None, (TOTAL,), None, ()), plan=plan)
        self.assertEqual(found[1], (2, ("tea", 4, 2), (7,)))
        self.assertEqual(found, answer(SHOP, (None, (TOTAL,), None, ())))

    def test_unserved(self):
        query = (None, (TOTAL,), None, ())
        error_in_all_forms(
            self, Unserved, {"need": BY_DAY}, run_plan, table=SHOP, query=query, plan=(order_of("day"),))
        error_in_all_forms(self, Unserved, {"need": BY_DAY}, run_plan, table=NO_ROWS, query=query, plan=())

    def test_the_least_need_that_no_sort_serves(self):
        figures = (TOTAL, PLACE, FIRST, BARE)
        all_needs = needs(figures)
        place = (("day", "kind"), order_of("price", way=DOWN), True)
        self.assertEqual(all_needs, [((), order_of("kind"), False), place, BY_DAY])
        sorts = [order_of("kind"), order_of("kind", "day") + order_of("price", way=DOWN), order_of("kind", "day")]
        for many in range(4):
            for chosen in itertools.permutations(sorts, many):
                unserved = [need for need in all_needs if not any(serves_in_words(sort, need) for sort in chosen)]
                query = (None, figures, None, ())
                if unserved:
                    error_in_all_forms(
                        self, Unserved, {"need": unserved[0]}, run_plan, table=SHOP, query=query, plan=chosen)
                else:
                    self.assertEqual(run_plan(SHOP, query, chosen), answer(SHOP, query))

    def test_without_needs(self):
        for figures in [(), (BARE,)]:
            for plan in [(), (order_of("price"),)]:
                query = (None, figures, None, (("price", "up", "last"),))
                self.assertEqual(
                    in_all_forms(self, run_plan, table=SHOP, query=query, plan=plan), answer(SHOP, query))

    def test_without_rows(self):
        query = (None, (TOTAL, FIRST, BARE), None, ())
        self.assertEqual(in_all_forms(self, run_plan, table=NO_ROWS, query=query, plan=(order_of("kind", "day"),)), [])

    def test_many_plans_give_the_answer(self):
        luck = random.Random(7)
        for _ in range(200):
            table = making.table(luck, luck.randrange(9))
            query = making.query(luck, luck.randrange(5))
            wanted = answer(table, query)
            for _ in range(4):
                plan = some_plan(luck, query[1], table[0])
                self.assertIs(is_plan(table[0], query[1], plan), True)
                self.assertEqual(run_plan(table, query, plan), wanted, (table, query, plan))

    def test_made_plans_in_all_forms(self):
        luck = random.Random(8)
        for _ in range(30):
            table = making.table(luck, 6)
            query = making.query(luck, 3)
            in_all_forms(self, run_plan, table=table, query=query, plan=some_plan(luck, query[1], table[0]))


class Fewest(unittest.TestCase):
    def check(self, figures, columns, fewest):
        self.assertEqual(in_all_forms(self, fewest_sorts, figures=figures), fewest)
        plan = in_all_forms(self, fewest_plan, figures=figures)
        self.assertEqual(len(plan), fewest)
        self.assertIs(is_plan(columns, figures, plan), True)
        found = in_all_forms(self, apart, figures=figures)
        self.assertIsInstance(found, list)
        self.assertEqual(len(found), fewest)
        self.assertIs(in_all_forms(self, shows_fewest, figures=figures, plan=plan, thing=found), True)

    def test_examples(self):
        self.check((TOTAL,), COLUMNS, 1)
        self.check((), COLUMNS, 0)
        self.check((BARE,), COLUMNS, 0)
        self.check((TOTAL, BARE), COLUMNS, 1)

    def test_all_share_or_none(self):
        order = ("a", "b", "c")
        columns = tuple((name, "number") for name in order)
        sharing = [((), order_of("a"), False), (("a", "b"), (), False), ((), order_of("a", "b", "c"), True),
                   (("a",), order_of("b"), False), (("a",), order_of("b", "c"), True)]
        self.check(tuple(figure_for(need, name) for need, name in zip(sharing, "abcde")), columns, 1)
        alone = [((), order_of("a"), True), ((), order_of("b"), True), (("a",), order_of("c"), True),
                 ((), order_of("a", way=DOWN), True), (("b", "c"), order_of("a"), True)]
        self.check(tuple(figure_for(need, name) for need, name in zip(alone, "abcde")), columns, 5)

    def test_which_share_must_be_chosen(self):
        columns = tuple((name, "number") for name in "abcd")
        # One part each goes with two of the pairs; only some choices leave as few SORTs as there are pairs.
        wanted = [(("a",), (), False), (("b",), (), False), (("c",), (), False),
                  (("a", "b"), (), False), (("b", "c"), (), False), (("a", "c"), (), False)]
        for chosen in itertools.permutations(wanted):
            figures = tuple(figure_for(need, name) for need, name in zip(chosen, "abcdef"))
            self.assertEqual(fewest_sorts(figures), 3)
        self.check(figures, columns, 3)

    def test_fewest_beside_a_search_through_all_groupings(self):
        luck = random.Random(10)
        names = [name for name, _ in making.COLUMNS]
        sorts = sorts_of(names, (UP, DOWN, ("up", "first"), ("down", "last")))
        found = set()
        for _ in range(60):
            figures = making.figures(luck, luck.randrange(2, 7))
            wanted = needs(figures)
            if wanted:
                fewest = fewest_in_words(wanted, sorts)
                self.check(figures, making.COLUMNS, fewest)
                found.add((fewest, len(wanted)))
        self.assertGreater(len([1 for fewest, many in found if fewest < many]), 3)

    def test_fewest_of_few_columns_and_ways(self):
        luck = random.Random(11)
        columns = (("a", "number"), ("b", "number"), ("c", "number"))
        sorts = sorts_of("abc", (UP,))
        pool = [(tuple(sorted(parts)), order_of(*rest[:many]), tight)
                for ahead in range(4) for parts in itertools.combinations("abc", ahead)
                for rest in itertools.permutations([name for name in "abc" if name not in parts])
                for many in range(len(rest) + 1) for tight in (False, True) if ahead + many > 0]
        for _ in range(150):
            wanted = sorted(set(luck.sample(pool, luck.randrange(3, 7))))
            figures = tuple(figure_for(need, "f" + letter) for need, letter in zip(wanted, "abcdef"))
            self.assertEqual(needs(figures), wanted)
            self.check(figures, columns, fewest_in_words(wanted, sorts))

    def test_every_answer_is_a_new_list(self):
        apart((TOTAL,)).clear()
        self.assertEqual(apart((TOTAL,)), [BY_DAY])


class ShowsFewest(unittest.TestCase):
    def shows(self, figures, plan, thing):
        return in_all_forms(self, shows_fewest, figures=figures, plan=plan, thing=thing)

    def test_right_things(self):
        self.assertIs(self.shows((TOTAL,), (order_of("kind", "day"),), [BY_DAY]), True)
        self.assertIs(self.shows((), (), []), True)
        self.assertIs(self.shows((BARE,), (), []), True)
        figures = (TOTAL, FIRST)
        plan = (order_of("kind", "day"),)
        self.assertIs(self.shows(figures, plan, [BY_DAY]), True)
        self.assertIs(self.shows(figures, plan, [((), order_of("kind"), False)]), True)
        plan = (order_of("kind", "day"), order_of("day", "kind") + order_of("price", way=DOWN))
        place = (("day", "kind"), order_of("price", way=DOWN), True)
        self.assertIs(self.shows((TOTAL, PLACE), plan, [place, BY_DAY]), True)

    def test_plans_that_are_none_or_too_long(self):
        self.assertIs(self.shows((TOTAL,), (order_of("day"),), [BY_DAY]), False)
        self.assertIs(self.shows((TOTAL,), (), []), False)
        self.assertIs(self.shows((), (order_of("day"),), []), False)
        self.assertIs(self.shows((TOTAL,), (order_of("kind", "day"), order_of("day")), [BY_DAY]), False)
        figures = (TOTAL, FIRST)
        self.assertIs(self.shows(figures, (order_of("kind", "day"), order_of("kind")), [
            ((), order_of("kind"), False), BY_DAY]), False)

    def test_wrong_lists(self):
        figures, plan = (TOTAL, FIRST), (order_of("kind", "day"),)
        first = ((), order_of("kind"), False)
        others = [
            (), (BY_DAY,), [], [BY_DAY, BY_DAY], [BY_DAY, first], BY_DAY, list(BY_DAY), [listed(BY_DAY)],
            [BY_DAY[:2]], [BY_DAY + (True,)], [(("kind",), order_of("day"), False)], [((), order_of("kind"), True)],
            [(("kind",), order_of("day"), 1)], [((), order_of("kind"), 0)], [((), order_of("kind"), None)],
            [(["kind"], order_of("day"), True)], [(("kind",), list(order_of("day")), True)], [None], [[BY_DAY]],
            [(("kind",), (["day", "up", "last"],), True)], [TOTAL], [(("day",), order_of("kind"), True)],
        ]
        for thing in STRAY_VALUES + [deep(16), listed(deep(16))] + others:
            self.assertIs(self.shows(figures, plan, thing), False, thing)

    def test_lists_of_needs_that_are_told_twice(self):
        two = (order_of("kind", "day"), order_of("day", "kind") + order_of("price", way=DOWN))
        place = (("day", "kind"), order_of("price", way=DOWN), True)
        for thing, wanted in [
            ([BY_DAY, place], True), ([place, BY_DAY], True), ([place, place], False), ([BY_DAY, BY_DAY], False),
            ([BY_DAY], False), ([BY_DAY, place, place], False), ((BY_DAY, place), False),
        ]:
            self.assertIs(self.shows((TOTAL, PLACE), two, thing), wanted)


if __name__ == "__main__":
    unittest.main()
