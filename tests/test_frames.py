"""Promises 1, 2 and 8: frames, their bounds and places, and who holds a place."""

import itertools
import unittest

from overrows.frames import (
    bounds, frame_fits, frame_places, holders, is_frame, line_of, pieces, stretches, turned,
)
from overrows.parts import partitions
from tests.samples import (
    COLUMNS, RUNNING, SHOP, STRAY_VALUES, UNITS, WITHOUTS, deep, each_false, each_true, frames_with, in_all_forms,
    line_of_sizes, line_of_values, lines_and_frames, listed,
)

DAYS = ("up", ((0, 1), (0, 1), (1, 2), (1, 2), (2, None)))
TEN = line_of_sizes([2, 1, 3, 1, 3])


def bound_in_words(line, place, unit, bound, is_low):
    """The place of a bound, searched for as the document words it."""
    way, entries = line
    many = len(entries)
    group, value = entries[place]
    if bound[0] in ("start", "end"):
        return 0 if bound[0] == "start" else many - 1
    own_peers = [other for other in range(many) if entries[other][0] == group]
    number = 0 if bound[0] == "here" else bound[1] if bound[0] == "after" else -bound[1]
    if unit == "rows":
        wanted = [other for other in range(many) if other == place + number]
    elif unit == "groups":
        wanted = [other for other in range(many) if entries[other][0] == group + number]
    elif bound[0] == "here" or value is None:
        wanted = own_peers
    else:
        return value_bound_in_words(entries, way, value, number, is_low)
    if wanted:
        return wanted[0] if is_low else wanted[-1]
    if number < 0:
        return 0 if is_low else -1
    return many if is_low else many - 1


def value_bound_in_words(entries, way, value, number, is_low):
    stretch = [other for other in range(len(entries)) if entries[other][1] is not None]
    if way == "up":
        wanted = value + number
        fits = [other for other in stretch
                if (entries[other][1] >= wanted if is_low else entries[other][1] <= wanted)]
    else:
        wanted = value - number
        fits = [other for other in stretch
                if (entries[other][1] <= wanted if is_low else entries[other][1] >= wanted)]
    if is_low:
        return fits[0] if fits else stretch[-1] + 1
    return fits[-1] if fits else stretch[0] - 1


def places_in_words(line, place, frame):
    """The places of a frame: those between its bounds, less those that it leaves out."""
    unit, low, high, without = frame
    first = bound_in_words(line, place, unit, low, True)
    last = bound_in_words(line, place, unit, high, False)
    found = []
    for other in range(len(line[1])):
        alike = line[1][other][0] == line[1][place][0]
        left_out = {
            "nobody": False,
            "row": other == place,
            "group": alike,
            "ties": alike and other != place,
        }[without]
        if first <= other <= last and not left_out:
            found.append(other)
    return found


def as_stretches(places):
    """The pairs of the first and last of the places that stand side by side."""
    found = []
    for place in places:
        if found and found[-1][1] == place - 1:
            found[-1] = (found[-1][0], place)
        else:
            found.append((place, place))
    return tuple(found)


class IsFrame(unittest.TestCase):
    def test_all_frames(self):
        things = frames_with(UNITS, (0, 1, 50), WITHOUTS)
        self.assertEqual(len(things), 3 * 8 * 8 * 4)
        for thing in things:
            self.assertIs(is_frame(thing), True)
            self.assertIs(is_frame(thing=thing), True)

    def test_bounds_of_numbers_do_not_count(self):
        each_true(self, is_frame, [("rows", ("before", 10 ** 30), ("after", 51), "nobody")])

    def test_stray_values(self):
        each_false(self, is_frame, STRAY_VALUES + [deep(16), listed(deep(16))])

    def test_wrong_bounds(self):
        wrong = [
            (), None, "here", "start", "end", ("Here",), ("here", 0), ("start", 0), ("end", 1), ("before",), ("after",),
            ("before", -1), ("after", -1), ("before", True), ("after", False), ("before", None), ("after", "1"),
            ("before", (1,)), ("before", 1, 1), (1, "before"), ("now",), ("here", "here"), ["here"], ["before", 1],
            ("before", [1]), (None,), (1,), (True,), ((),), (("here",),), 0, 1, True, ("startend",), ("between", 1),
        ]
        for bound in wrong:
            with self.subTest(bound=bound):
                self.assertIs(is_frame(("rows", bound, ("here",), "nobody")), False)
                self.assertIs(is_frame(("rows", ("here",), bound, "nobody")), False)

    def test_end_is_no_low_and_start_no_high(self):
        for unit in UNITS:
            each_false(self, is_frame, [
                (unit, ("end",), ("here",), "nobody"),
                (unit, ("here",), ("start",), "nobody"),
                (unit, ("end",), ("end",), "nobody"),
                (unit, ("start",), ("start",), "nobody"),
                (unit, ("end",), ("start",), "nobody"),
            ])

    def test_wrong_units_and_withouts(self):
        for word in ("", "row", "group", "Rows", "values", None, True, 0, (), ("rows",), ["rows"]):
            with self.subTest(unit=word):
                self.assertIs(is_frame((word, ("start",), ("here",), "nobody")), False)
        for word in ("", "rows", "groups", "peers", "Nobody", None, False, 0, (), ("row",), ["row"]):
            with self.subTest(without=word):
                self.assertIs(is_frame(("rows", ("start",), ("here",), word)), False)

    def test_wrong_shapes(self):
        each_false(self, is_frame, [
            listed(RUNNING), list(RUNNING), RUNNING[:3], RUNNING + ("nobody",), (RUNNING,), (RUNNING,) * 4,
            ("rows", "start", "here", "nobody"),
        ])


class FrameFits(unittest.TestCase):
    ORDERS = {
        "none": (),
        "number": (("price", "up", "last"),),
        "number down": (("day", "down", "first"),),
        "text": (("kind", "up", "last"),),
        "two": (("price", "up", "last"), ("day", "up", "last")),
        "again": (("price", "up", "last"), ("price", "up", "last")),
    }

    def fits(self, frame, order):
        return in_all_forms(self, frame_fits, frame=frame, order=self.ORDERS[order], columns=COLUMNS)

    def test_range_with_a_number(self):
        for bound in (("before", 0), ("after", 0), ("before", 3), ("after", 3)):
            for without in WITHOUTS:
                for frame in (("range", bound, ("end",), without), ("range", ("start",), bound, without),
                              ("range", bound, bound, without), ("range", ("here",), bound, without)):
                    with self.subTest(frame=frame):
                        self.assertIs(self.fits(frame, "number"), True)
                        self.assertIs(self.fits(frame, "number down"), True)
                        for order in ("none", "text", "two", "again"):
                            self.assertIs(self.fits(frame, order), False)

    def test_all_others(self):
        others = frames_with(("rows", "groups"), (0, 2), ("nobody", "ties")) + frames_with(("range",), (), WITHOUTS)
        for frame in others:
            for order in self.ORDERS:
                self.assertIs(frame_fits(frame, self.ORDERS[order], COLUMNS), True)

    def test_columns_decide(self):
        frame = ("range", ("before", 1), ("here",), "nobody")
        order = (("a", "up", "last"),)
        self.assertIs(frame_fits(frame=frame, order=order, columns=(("b", "text"), ("a", "number"))), True)
        self.assertIs(frame_fits(frame=frame, order=order, columns=(("b", "number"), ("a", "text"))), False)


class LineOf(unittest.TestCase):
    def line(self, order, numbers, table=SHOP, parts=()):
        return in_all_forms(self, line_of, table=table, window=(parts, order, RUNNING), numbers=numbers)

    def test_example(self):
        self.assertEqual(self.line((("day", "up", "last"),), [1, 3, 2, 5, 4]), DAYS)
        self.assertEqual(self.line((("day", "up", "last"),), (1, 3, 2, 5, 4)), DAYS)

    def test_no_order_makes_one_group(self):
        self.assertEqual(self.line((), [1, 2, 3, 4, 5]), ("up", ((0, None),) * 5))

    def test_down_and_nulls_first(self):
        self.assertEqual(
            self.line((("day", "down", "first"),), [4, 2, 5, 1, 3]),
            ("down", ((0, None), (1, 2), (1, 2), (2, 1), (2, 1))))
        self.assertEqual(
            self.line((("price", "down", "last"),), [4, 2, 1, 3, 5]),
            ("down", ((0, 5), (1, 4), (2, 3), (3, 2), (3, 2))))

    def test_texts_have_no_values(self):
        self.assertEqual(
            self.line((("kind", "down", "last"),), [1, 2, 4, 3, 5]),
            ("up", ((0, None), (0, None), (0, None), (1, None), (1, None))))

    def test_several_items_have_no_values(self):
        order = (("day", "down", "last"), ("price", "down", "last"))
        self.assertEqual(
            self.line(order, [2, 5, 1, 3, 4]), ("up", ((0, None), (1, None), (2, None), (3, None), (4, None))))
        order = (("day", "down", "last"), ("day", "up", "last"))
        self.assertEqual(
            self.line(order, [2, 5, 1, 3, 4]), ("up", ((0, None), (0, None), (1, None), (1, None), (2, None))))

    def test_partitions_of_one_row(self):
        order = (("price", "down", "first"),)
        self.assertEqual(self.line(order, [4], parts=("price",)), ("down", ((0, 5),)))
        self.assertEqual(self.line((), [4], parts=("price",)), ("up", ((0, None),)))

    def test_only_rows_without_a_value(self):
        table = ((("a", "number"),), ((0, (None,)), (1, (None,))))
        self.assertEqual(
            self.line((("a", "down", "first"),), [0, 1], table=table), ("down", ((0, None), (0, None))))

    def test_part_of_the_table(self):
        table = ((("p", "text"), ("a", "number")), ((0, ("x", 0)), (1, ("y", 7)), (2, ("x", 0)), (3, ("x", -4))))
        window = (("p",), (("a", "up", "last"),), RUNNING)
        self.assertEqual(
            in_all_forms(self, line_of, table=table, window=window, numbers=[3, 0, 2]),
            ("up", ((0, -4), (1, 0), (1, 0))))
        self.assertEqual([line_of(table, window, numbers)[1] for numbers in partitions(table, window)],
                         [((0, -4), (1, 0), (1, 0)), ((0, 7),)])


class Bounds(unittest.TestCase):
    def test_example(self):
        frame = ("range", ("before", 1), ("here",), "nobody")
        self.assertEqual(in_all_forms(self, bounds, line=DAYS, place=2, frame=frame), (0, 3))

    def bounds(self, line, place, unit, low, high):
        for without in WITHOUTS:
            answer = in_all_forms(self, bounds, line=line, place=place, frame=(unit, low, high, without))
        return answer

    def test_rows(self):
        self.assertEqual(self.bounds(TEN, 4, "rows", ("start",), ("end",)), (0, 9))
        self.assertEqual(self.bounds(TEN, 4, "rows", ("here",), ("here",)), (4, 4))
        self.assertEqual(self.bounds(TEN, 4, "rows", ("before", 2), ("after", 3)), (2, 7))
        self.assertEqual(self.bounds(TEN, 4, "rows", ("after", 2), ("before", 3)), (6, 1))

    def test_rows_cut_at_the_ends(self):
        self.assertEqual(self.bounds(TEN, 1, "rows", ("before", 50), ("before", 50)), (0, -1))
        self.assertEqual(self.bounds(TEN, 8, "rows", ("after", 50), ("after", 50)), (10, 9))
        self.assertEqual(self.bounds(TEN, 0, "rows", ("before", 0), ("before", 1)), (0, -1))
        self.assertEqual(self.bounds(TEN, 9, "rows", ("after", 1), ("after", 0)), (10, 9))

    def test_groups(self):
        self.assertEqual(self.bounds(TEN, 4, "groups", ("here",), ("here",)), (3, 5))
        self.assertEqual(self.bounds(TEN, 4, "groups", ("before", 1), ("after", 1)), (2, 6))
        self.assertEqual(self.bounds(TEN, 4, "groups", ("before", 2), ("before", 2)), (0, 1))
        self.assertEqual(self.bounds(TEN, 4, "groups", ("after", 1), ("before", 1)), (6, 2))
        self.assertEqual(self.bounds(TEN, 4, "groups", ("before", 0), ("after", 0)), (3, 5))

    def test_groups_cut_at_the_ends(self):
        self.assertEqual(self.bounds(TEN, 4, "groups", ("before", 3), ("before", 3)), (0, -1))
        self.assertEqual(self.bounds(TEN, 4, "groups", ("after", 3), ("after", 3)), (10, 9))

    def test_range_without_numbers_is_as_groups(self):
        for line in (TEN, DAYS):
            for place in range(len(line[1])):
                for low, high in itertools.product([("start",), ("here",)], [("here",), ("end",)]):
                    self.assertEqual(
                        self.bounds(line, place, "range", low, high), self.bounds(line, place, "groups", low, high))

    def test_range_up(self):
        line = line_of_values("up", (None, 1, 3, 3, 7, 8))
        self.assertEqual(self.bounds(line, 2, "range", ("before", 2), ("after", 4)), (1, 4))
        self.assertEqual(self.bounds(line, 2, "range", ("before", 1), ("after", 3)), (2, 3))
        self.assertEqual(self.bounds(line, 5, "range", ("after", 1), ("end",)), (6, 5))
        self.assertEqual(self.bounds(line, 1, "range", ("start",), ("before", 1)), (0, 0))
        self.assertEqual(self.bounds(line, 0, "range", ("before", 9), ("after", 9)), (0, 0))

    def test_range_down(self):
        line = line_of_values("down", (8, 7, 3, 3, 1, None, None))
        self.assertEqual(self.bounds(line, 2, "range", ("before", 4), ("after", 2)), (1, 4))
        self.assertEqual(self.bounds(line, 2, "range", ("before", 3), ("after", 1)), (2, 3))
        self.assertEqual(self.bounds(line, 4, "range", ("after", 1), ("end",)), (5, 6))
        self.assertEqual(self.bounds(line, 0, "range", ("start",), ("before", 1)), (0, -1))
        self.assertEqual(self.bounds(line, 6, "range", ("after", 3), ("before", 3)), (5, 6))

    def test_every_small_partition_by_the_words(self):
        for line, frame in lines_and_frames(4, (0, 1, 2), ("nobody",)):
            unit, low, high, _ = frame
            for place in range(len(line[1])):
                wanted = (bound_in_words(line, place, unit, low, True), bound_in_words(line, place, unit, high, False))
                self.assertEqual(bounds(line, place, frame), wanted, (line, place, frame))


class Places(unittest.TestCase):
    def test_examples(self):
        for place, frame, wanted in [
            (0, ("rows", ("start",), ("end",), "ties"), ((0, 0), (2, 4))),
            (2, ("groups", ("start",), ("end",), "group"), ((0, 1), (4, 4))),
            (2, ("range", ("after", 1), ("end",), "nobody"), ((4, 4),)),
            (2, ("range", ("before", 1), ("before", 3), "nobody"), ()),
        ]:
            self.assertEqual(in_all_forms(self, stretches, line=DAYS, place=place, frame=frame), wanted)

    def test_pieces(self):
        low, high = ("before", 3), ("after", 3)
        for place, frame, wanted in [
            (4, ("rows", low, high, "nobody"), ((1, 7), None, None)),
            (4, ("rows", low, high, "row"), ((1, 3), None, (5, 7))),
            (4, ("rows", low, high, "group"), ((1, 2), None, (6, 7))),
            (4, ("rows", low, high, "ties"), ((1, 2), (4, 4), (6, 7))),
            (4, ("rows", ("here",), ("here",), "ties"), (None, (4, 4), None)),
            (4, ("rows", ("here",), ("here",), "row"), (None, None, None)),
            (4, ("rows", ("before", 1), ("here",), "group"), (None, None, None)),
            (4, ("rows", ("start",), ("before", 1), "row"), ((0, 3), None, None)),
            (4, ("rows", ("start",), ("before", 1), "ties"), ((0, 2), None, None)),
            (4, ("rows", ("after", 1), ("end",), "ties"), (None, None, (6, 9))),
            (4, ("rows", ("after", 1), ("end",), "row"), (None, None, (5, 9))),
            (4, ("rows", ("after", 1), ("before", 1), "ties"), (None, None, None)),
            (4, ("rows", ("before", 1), ("before", 3), "nobody"), (None, None, None)),
            (4, ("groups", ("here",), ("end",), "ties"), (None, (4, 4), (6, 9))),
            (9, ("groups", ("start",), ("here",), "row"), ((0, 8), None, None)),
        ]:
            with self.subTest(frame=frame):
                self.assertEqual(in_all_forms(self, pieces, line=TEN, place=place, frame=frame), wanted)

    def test_neighbouring_stretches_are_one(self):
        frame = ("rows", ("start",), ("end",), "ties")
        self.assertEqual(in_all_forms(self, pieces, line=TEN, place=2, frame=frame), ((0, 1), (2, 2), (3, 9)))
        self.assertEqual(in_all_forms(self, stretches, line=TEN, place=2, frame=frame), ((0, 9),))
        self.assertEqual(in_all_forms(self, stretches, line=TEN, place=3, frame=frame), ((0, 3), (6, 9)))
        self.assertEqual(in_all_forms(self, stretches, line=TEN, place=4, frame=frame), ((0, 2), (4, 4), (6, 9)))
        self.assertEqual(in_all_forms(self, frame_places, line=TEN, place=4, frame=frame), [0, 1, 2, 4, 6, 7, 8, 9])

    def test_a_row_alone(self):
        for line in (line_of_sizes([1]), line_of_values("down", (3,)), line_of_values("up", (None,))):
            for without, wanted in [("nobody", [0]), ("row", []), ("group", []), ("ties", [0])]:
                for frame in frames_with(("rows", "groups"), (0,), (without,)):
                    self.assertEqual(in_all_forms(self, frame_places, line=line, place=0, frame=frame), wanted)

    def test_every_answer_is_a_new_list(self):
        frame_places(DAYS, 0, RUNNING).append(7)
        self.assertEqual(frame_places(DAYS, 0, RUNNING), [0])

    def test_every_small_partition_by_the_words(self):
        for line, frame in lines_and_frames(3, (0, 1), WITHOUTS):
            for place in range(len(line[1])):
                wanted = places_in_words(line, place, frame)
                self.assertEqual(frame_places(line, place, frame), wanted, (line, place, frame))
                self.assertEqual(stretches(line, place, frame), as_stretches(wanted), (line, place, frame))
                self.check_pieces(line, place, frame, wanted)

    def check_pieces(self, line, place, frame, wanted):
        left, own, right = pieces(line, place, frame)
        found = [range(piece[0], piece[1] + 1) for piece in (left, own, right) if piece is not None]
        self.assertEqual([other for piece in found for other in piece], wanted)
        self.assertNotIn(0, [len(piece) for piece in found])
        if frame[3] == "nobody":
            self.assertEqual((own, right), (None, None))
        else:
            self.assertIn(own, (None, (place, place)))
            self.assertTrue(left is None or left[1] < place)
            self.assertTrue(right is None or right[0] > place)
        if frame[3] in ("row", "group"):
            self.assertIsNone(own)


class Turned(unittest.TestCase):
    def test_examples(self):
        frame = ("rows", ("before", 1), ("after", 2), "row")
        self.assertEqual(in_all_forms(self, turned, frame=frame), ("rows", ("before", 2), ("after", 1), "row"))
        frame = ("groups", ("here",), ("after", 1), "nobody")
        self.assertEqual(in_all_forms(self, holders, line=DAYS, place=3, frame=frame), ((0, 3),))

    def test_each_bound(self):
        opposites = {"start": "end", "end": "start", "before": "after", "after": "before", "here": "here"}
        for frame in frames_with(UNITS, (0, 3), WITHOUTS):
            unit, low, high, without = frame
            wanted = (unit, (opposites[high[0]], *high[1:]), (opposites[low[0]], *low[1:]), without)
            self.assertEqual(in_all_forms(self, turned, frame=frame), wanted)
            self.assertIs(is_frame(turned(frame)), True)
            self.assertEqual(turned(turned(frame)), frame)

    def test_running_frame(self):
        self.assertEqual(in_all_forms(self, turned, frame=RUNNING), ("rows", ("here",), ("end",), "nobody"))
        self.assertEqual(in_all_forms(self, holders, line=DAYS, place=3, frame=RUNNING), ((3, 4),))

    def test_nobody_holds_the_place(self):
        frame = ("rows", ("after", 1), ("before", 1), "nobody")
        self.assertEqual(in_all_forms(self, holders, line=DAYS, place=0, frame=frame), ())

    def test_holders_are_those_whose_frames_have_the_place(self):
        for line, frame in lines_and_frames(3, (0, 2), WITHOUTS):
            many = range(len(line[1]))
            having = [places_in_words(line, place, frame) for place in many]
            for place in many:
                wanted = as_stretches([other for other in many if place in having[other]])
                self.assertEqual(holders(line, place, frame), wanted, (line, place, frame))

    def test_holders_in_a_longer_partition(self):
        lines = [line_of_values("up", (None, 0, 1, 1, 2, 5)), line_of_values("down", (9, 9, 6, 5, 5, None, None)), TEN]
        for line in lines:
            units = ("rows", "groups") if line == TEN else UNITS
            for frame in frames_with(units, (1, 3), WITHOUTS):
                many = range(len(line[1]))
                having = [frame_places(line, place, frame) for place in many]
                for place in many:
                    wanted = as_stretches([other for other in many if place in having[other]])
                    self.assertEqual(holders(line, place, frame), wanted, (line, place, frame))


if __name__ == "__main__":
    unittest.main()
