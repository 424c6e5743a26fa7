"""Promises 2 and 12: short orders, needs, and the sorts that serve them."""

import itertools
import unittest

from overrows.errors import Apart
from overrows.needs import can_share, needs, serves, sort_for
from tests.samples import ALL_SO_FAR, RUNNING, error_in_all_forms, in_all_forms

BY_DAY = (("kind",), (("day", "up", "last"),), True)
BY_PRICE = ((), (("kind", "up", "last"), ("price", "up", "last")), False)
UP, DOWN = ("up", "last"), ("down", "first")
BY_RANGE = ("range", ("start",), ("here",), "nobody")
BY_GROUPS = ("groups", ("before", 1), ("here",), "ties")


def order_of(*names, way=UP):
    return tuple((name, *way) for name in names)


def figure_of(function, arguments, window, name="f"):
    return (name, function, arguments, None, window)


def sorts_of(columns, ways=(UP,)):
    """Every SORT of these columns, with these ways."""
    found = []
    for many in range(1, len(columns) + 1):
        for names in itertools.permutations(columns, many):
            for chosen in itertools.product(ways, repeat=many):
                found.append(tuple((name, *way) for name, way in zip(names, chosen)))
    return found


def needs_of(columns, longest, ways=(UP,)):
    """Every NEED of these columns whose order has at most so many items."""
    found = []
    for many in range(len(columns) + 1):
        for parts in itertools.combinations(columns, many):
            others = [name for name in columns if name not in parts]
            orders = [()] + [sort for sort in sorts_of(others, ways) if len(sort) <= longest]
            found.extend((parts, order, tight) for order in orders for tight in (False, True) if parts or order)
    return found


def serves_in_words(sort, need):
    parts, order, tight = need
    items = list(sort)
    names = {items.pop(0)[0] for _ in parts} if len(items) >= len(parts) else None
    if names != set(parts):
        return False
    for item in order:
        if not items or items.pop(0) != item:
            return False
    return not (tight and items)


class Needs(unittest.TestCase):
    def need(self, function, arguments, window):
        answer = in_all_forms(self, needs, figures=(figure_of(function, arguments, window),))
        self.assertLessEqual(len(answer), 1)
        return answer[0] if answer else None

    def test_example(self):
        total = ("total", "sum", ("price",), None, ALL_SO_FAR)
        self.assertEqual(in_all_forms(self, needs, figures=(total,)), [BY_DAY])

    def test_tight_figures(self):
        window = (("kind",), order_of("day"), BY_RANGE)
        tight = [
            ("row", ()), ("tile", (2,)), ("earlier", ("price", 1, None, "counted")),
            ("later", ("price", 0, None, "passed")), ("first", ("price", "counted")), ("last", ("price", "passed")),
            ("nth", ("price", 2, "counted")), ("joined", ("kind",)), ("joined", ("kind", "unlike")),
        ]
        loose = [
            ("rank", ()), ("dense", ()), ("percent", ()), ("share", ()), ("count", ()), ("count", ("price",)),
            ("sum", ("price", "unlike")), ("mean", ("price",)), ("least", ("price",)), ("most", ("price",)),
        ]
        for call in tight:
            for frame in (BY_RANGE, BY_GROUPS, RUNNING):
                self.assertEqual(self.need(*call, window[:2] + (frame,)), (("kind",), order_of("day"), True), call)
        for function, arguments in loose:
            for frame in (BY_RANGE, BY_GROUPS):
                self.assertEqual(
                    self.need(function, arguments, window[:2] + (frame,)), (("kind",), order_of("day"), False))
            by_rows = function in ("count", "sum", "mean", "least", "most")
            for frame in (RUNNING, ("rows", ("start",), ("end",), "nobody")):
                self.assertEqual(
                    self.need(function, arguments, window[:2] + (frame,)), (("kind",), order_of("day"), by_rows))

    def test_without_parts_and_order(self):
        for call in [("count", ()), ("row", ()), ("first", ("price", "counted"))]:
            self.assertIsNone(self.need(*call, ((), (), BY_RANGE)))
            self.assertIsNone(self.need(*call, ((), (), RUNNING)))
        self.assertEqual(in_all_forms(self, needs, figures=()), [])

    def test_short_orders(self):
        down = order_of("price", way=DOWN)
        for parts, order, wanted in [
            (("kind",), order_of("kind"), (("kind",), ())),
            ((), order_of("kind"), ((), order_of("kind"))),
            (("price", "kind"), (), (("kind", "price"), ())),
            (("price", "kind"), order_of("kind", "day", "price"), (("kind", "price"), order_of("day"))),
            ((), order_of("day", "day"), ((), order_of("day"))),
            ((), order_of("day") + down + order_of("day", way=DOWN), ((), order_of("day") + down)),
            (("day",), order_of("price") + order_of("day") + down, (("day",), order_of("price"))),
        ]:
            self.assertEqual(self.need("rank", (), (parts, order, RUNNING)), wanted + (False,))

    def test_ascending_and_each_once(self):
        figures = (
            figure_of("rank", (), (("kind",), order_of("day"), RUNNING), "a"),
            figure_of("row", (), (("kind",), order_of("day"), RUNNING), "b"),
            figure_of("dense", (), (("kind",), order_of("day", "kind"), RUNNING), "c"),
            figure_of("dense", (), ((), order_of("kind"), RUNNING), "d"),
            figure_of("count", (), ((), (), RUNNING), "e"),
            figure_of("row", (), (("day", "kind"), (), RUNNING), "f"),
            figure_of("row", (), (("kind", "day"), (), BY_RANGE), "g"),
        )
        self.assertEqual(in_all_forms(self, needs, figures=figures), [
            ((), order_of("kind"), False),
            (("day", "kind"), (), True),
            (("kind",), order_of("day"), False),
            (("kind",), order_of("day"), True),
        ])

    def test_every_answer_is_a_new_list(self):
        figures = (figure_of("rank", (), ALL_SO_FAR),)
        needs(figures).clear()
        self.assertEqual(len(needs(figures)), 1)


class Serves(unittest.TestCase):
    def serves(self, sort, need):
        return in_all_forms(self, serves, sort=sort, need=need)

    def test_example(self):
        self.assertIs(self.serves(order_of("kind", way=DOWN) + order_of("day"), BY_DAY), True)

    def test_parts_in_any_order_and_way(self):
        need = (("a", "b"), order_of("c"), True)
        for names in (("a", "b"), ("b", "a")):
            for one, other in itertools.product((UP, DOWN, ("up", "first"), ("down", "last")), repeat=2):
                parts = order_of(names[0], way=one) + order_of(names[1], way=other)
                self.assertIs(self.serves(parts + order_of("c"), need), True)
                self.assertIs(self.serves(parts + order_of("c", way=DOWN), need), False)
                self.assertIs(self.serves(parts + order_of("c", way=("up", "first")), need), False)
                self.assertIs(self.serves(parts + order_of("c", way=("down", "last")), need), False)

    def test_an_item_more_less_or_changed(self):
        for tight in (False, True):
            need = (("a", "b"), order_of("c", "d"), tight)
            self.assertIs(self.serves(order_of("b", "a", "c", "d"), need), True)
            self.assertIs(self.serves(order_of("b", "a", "c", "d", "e"), need), not tight)
            for names in ["bac", "ba", "b", "bca", "badc", "bacf", "abd", "cabd", "acbd", "fbacd", "bfacd", "bafcd",
                          "bcd", "cd", "bacfd"]:
                self.assertIs(self.serves(order_of(*names), need), False, names)

    def test_needs_without_order_or_parts(self):
        self.assertIs(self.serves(order_of("a", "b"), (("a",), (), False)), True)
        self.assertIs(self.serves(order_of("a", "b"), (("a",), (), True)), False)
        self.assertIs(self.serves(order_of("a"), (("a",), (), True)), True)
        self.assertIs(self.serves(order_of("a"), ((), order_of("a"), True)), True)
        self.assertIs(self.serves(order_of("a", way=DOWN), ((), order_of("a"), True)), False)

    def test_every_small_sort_by_the_words(self):
        sorts = sorts_of("abc", (UP, DOWN))
        for need in needs_of("abc", 2, (UP, DOWN)):
            for sort in sorts:
                self.assertIs(serves(sort, need), serves_in_words(sort, need), (sort, need))


class Sharing(unittest.TestCase):
    def test_examples(self):
        self.assertIs(in_all_forms(self, can_share, one=BY_DAY, other=BY_PRICE), False)
        kind = ((), order_of("kind"), False)
        self.assertIs(in_all_forms(self, can_share, one=((), order_of("kind"), True), other=BY_DAY), False)
        self.assertIs(in_all_forms(self, can_share, one=kind, other=BY_DAY), True)
        self.assertEqual(in_all_forms(self, sort_for, needs=[kind, BY_DAY]), order_of("kind", "day"))

    def test_a_sort_for_each_group_that_can_share(self):
        all_needs = [
            need for need in needs_of("abc", 3, (UP,)) + [((), order_of("a", way=DOWN), False)]
        ]
        all_sorts = sorts_of("abc", (UP, DOWN))
        served = [{sort for sort in all_sorts if serves_in_words(sort, need)} for need in all_needs]
        for one, other in itertools.product(range(len(all_needs)), repeat=2):
            wanted = bool(served[one] & served[other])
            self.assertIs(can_share(all_needs[one], all_needs[other]), wanted, (all_needs[one], all_needs[other]))
        groups = [[one, other, third] for one, other, third in itertools.combinations(range(len(all_needs)), 3)
                  if served[one] & served[other] and served[one] & served[third] and served[other] & served[third]]
        self.assertGreater(len(groups), 100)
        for group in groups:
            for numbers in (group, group[::-1]):
                sort = sort_for([all_needs[number] for number in numbers])
                self.assertIn(sort, all_sorts)
                for number in numbers:
                    self.assertIs(serves_in_words(sort, all_needs[number]), True, (sort, all_needs[number]))

    def test_one_need(self):
        for need in needs_of("abcd", 2, (UP, DOWN)):
            sort = sort_for([need])
            self.assertIs(serves_in_words(sort, need), True)
            self.assertIs(can_share(need, need), True)
            self.assertEqual(sort_for([need, need]), sort)

    def test_equal_answers_in_all_forms(self):
        group = [(("a", "c"), order_of("b"), False), (("c",), (), False), (("a", "b", "c"), order_of("e", "d"), True)]
        for chosen in itertools.permutations(group):
            sort = in_all_forms(self, sort_for, needs=list(chosen))
            for need in group:
                self.assertIs(serves_in_words(sort, need), True)

    def test_apart(self):
        a = ((), order_of("a"), False)
        a_tight = ((), order_of("a"), True)
        ab = ((), order_of("a", "b"), False)
        ac = ((), order_of("a", "c"), False)
        b = (("b",), (), False)
        for chosen, one, other in [
            ([a, b], a, b),
            ([b, a], b, a),
            ([a, ab, ac, b], a, b),
            ([ab, a, ac, b], ab, ac),
            ([a, ab, ac], ab, ac),
            ([a, ab, a_tight, ac], ab, a_tight),
            ([a, a_tight, ab, ac], a_tight, ab),
            ([a, a, b, b], a, b),
        ]:
            error_in_all_forms(self, Apart, {"one": one, "other": other}, sort_for, needs=chosen)


if __name__ == "__main__":
    unittest.main()
