"""Promises 2 and 7: the looks of offsets, place by place."""

import itertools
import unittest

from overrows.frames import frame_places
from overrows.functions import call_value
from overrows.offsets import offset_looks
from tests.samples import (
    RUNNING, UNITS, WITHOUTS, frames_with, in_all_forms, line_of_sizes, line_of_values, lines_and_frames,
)

DAYS = ("up", ((0, 1), (0, 1), (1, 2), (1, 2), (2, None)))
PRICES = (3, 2, 4, 2, 5)
GAPS = (3, None, 4, None, 5)


def look_in_words(call, cells, line, frame, place):
    """The look of an offset, found step by step as the document words it."""
    function, arguments = call
    passes = arguments[-1] == "passed"
    if function in ("earlier", "later"):
        step = -1 if function == "earlier" else 1
        left = arguments[1]
        while left > 0:
            place += step
            if not 0 <= place < len(cells):
                return ()
            if not (passes and cells[place] is None):
                left -= 1
        return (cells[place],)
    values = []
    for other in frame_places(line, place, frame):
        if not (passes and cells[other] is None):
            values.append(cells[other])
    if function == "last":
        return tuple(values[-1:])
    at = 0 if function == "first" else arguments[1] - 1
    return tuple(values[at:at + 1])


class Steps(unittest.TestCase):
    def looks(self, function, number, nulls, cells, frame=RUNNING, line=DAYS):
        return in_all_forms(
            self, offset_looks, call=(function, ("price", number, 0, nulls)), cells=cells, line=line, frame=frame)

    def test_examples(self):
        self.assertEqual(self.looks("earlier", 1, "counted", PRICES), [(), (3,), (2,), (4,), (2,)])
        self.assertEqual(self.looks("earlier", 1, "passed", GAPS), [(), (3,), (3,), (4,), (4,)])

    def test_later(self):
        self.assertEqual(self.looks("later", 1, "counted", PRICES), [(2,), (4,), (2,), (5,), ()])
        self.assertEqual(self.looks("later", 2, "counted", PRICES), [(4,), (2,), (5,), (), ()])
        self.assertEqual(self.looks("later", 1, "passed", GAPS), [(4,), (4,), (5,), (5,), ()])
        self.assertEqual(self.looks("later", 2, "passed", GAPS), [(5,), (5,), (), (), ()])

    def test_rows_without_a_value_are_counted(self):
        self.assertEqual(self.looks("earlier", 1, "counted", GAPS), [(), (3,), (None,), (4,), (None,)])
        self.assertEqual(self.looks("later", 1, "counted", GAPS), [(None,), (4,), (None,), (5,), ()])
        self.assertEqual(self.looks("earlier", 2, "counted", GAPS), [(), (), (3,), (None,), (4,)])

    def test_the_row_itself_also_if_it_would_be_passed_over(self):
        for function in ("earlier", "later"):
            for nulls in ("counted", "passed"):
                self.assertEqual(self.looks(function, 0, nulls, GAPS), [(3,), (None,), (4,), (None,), (5,)])

    def test_no_row_so_far_away(self):
        for function in ("earlier", "later"):
            for nulls in ("counted", "passed"):
                self.assertEqual(self.looks(function, 5, nulls, PRICES), [()] * 5)
                self.assertEqual(self.looks(function, 50, nulls, PRICES), [()] * 5)
                self.assertEqual(self.looks(function, 1, "passed", (None,) * 5), [()] * 5)

    def test_the_frame_is_not_read(self):
        for frame in frames_with(UNITS, (0, 2), WITHOUTS):
            call = ("later", ("price", 2, 0, "counted"))
            self.assertEqual(offset_looks(call, PRICES, DAYS, frame), [(4,), (2,), (5,), (), ()])

    def test_a_line_of_one_place(self):
        line = line_of_sizes([1])
        for function in ("earlier", "later"):
            for nulls in ("counted", "passed"):
                self.assertEqual(self.looks(function, 0, nulls, (None,), line=line), [(None,)])
                self.assertEqual(self.looks(function, 0, nulls, ("x",), line=line), [("x",)])
                self.assertEqual(self.looks(function, 1, nulls, ("x",), line=line), [()])


class OfTheFrame(unittest.TestCase):
    def looks(self, function, arguments, cells, frame, line=DAYS):
        return in_all_forms(self, offset_looks, call=(function, arguments), cells=cells, line=line, frame=frame)

    def test_example(self):
        frame = ("groups", ("here",), ("after", 1), "nobody")
        self.assertEqual(self.looks("nth", ("price", 2, "counted"), PRICES, frame), [(2,), (2,), (2,), (2,), ()])

    def test_first_and_last(self):
        frame = ("rows", ("before", 1), ("after", 1), "nobody")
        self.assertEqual(self.looks("first", ("price", "counted"), GAPS, frame), [(3,), (3,), (None,), (4,), (None,)])
        self.assertEqual(self.looks("first", ("price", "passed"), GAPS, frame), [(3,), (3,), (4,), (4,), (5,)])
        self.assertEqual(self.looks("last", ("price", "counted"), GAPS, frame), [(None,), (4,), (None,), (5,), (5,)])
        self.assertEqual(self.looks("last", ("price", "passed"), GAPS, frame), [(3,), (4,), (4,), (5,), (5,)])

    def test_frames_of_three_stretches(self):
        line = line_of_sizes([1, 3, 1])
        frame = ("rows", ("start",), ("end",), "ties")
        for number, wanted in [
            (1, [(3,), (3,), (3,), (3,), (3,)]),
            (2, [(2,), (2,), (4,), (2,), (2,)]),
            (3, [(4,), (5,), (5,), (5,), (4,)]),
            (4, [(2,), (), (), (), (2,)]),
            (6, [(), (), (), (), ()]),
        ]:
            self.assertEqual(self.looks("nth", ("price", number, "counted"), PRICES, frame, line), wanted)

    def test_empty_and_crossed_frames(self):
        for frame in [
            ("rows", ("after", 2), ("before", 2), "nobody"), ("groups", ("here",), ("here",), "group"),
            ("rows", ("here",), ("here",), "row"), ("groups", ("before", 1), ("before", 3), "nobody"),
        ]:
            for function, arguments in [("first", ("price",)), ("last", ("price",)), ("nth", ("price", 1))]:
                for nulls in ("counted", "passed"):
                    self.assertEqual(self.looks(function, (*arguments, nulls), PRICES, frame), [()] * 5)

    def test_only_rows_without_a_value(self):
        frame = ("rows", ("start",), ("end",), "nobody")
        for function, arguments in [("first", ("price",)), ("last", ("price",)), ("nth", ("price", 5))]:
            cells = (None,) * 5
            self.assertEqual(self.looks(function, (*arguments, "counted"), cells, frame), [(None,)] * 5)
            self.assertEqual(self.looks(function, (*arguments, "passed"), cells, frame), [()] * 5)

    def test_texts(self):
        cells = ("rice", None, "", "tea", None)
        self.assertEqual(
            self.looks("last", ("kind", "passed"), cells, RUNNING), [("rice",), ("rice",), ("",), ("tea",), ("tea",)])

    def test_values_of_the_looks(self):
        call = ("earlier", ("price", 1, 7, "counted"))
        looks = offset_looks(call, GAPS, DAYS, RUNNING)
        self.assertEqual([call_value(call, look) for look in looks], [7, 3, None, 4, None])


class ByTheWords(unittest.TestCase):
    def test_steps(self):
        for many in range(1, 6):
            for cells in itertools.product((None, 7, 8), repeat=many):
                for function, number, nulls in itertools.product(
                        ("earlier", "later"), (0, 1, 2, 3), ("counted", "passed")):
                    call = (function, ("a", number, 5, nulls))
                    line = line_of_sizes([many])
                    wanted = [look_in_words(call, cells, line, RUNNING, place) for place in range(many)]
                    self.assertEqual(offset_looks(call, cells, line, RUNNING), wanted, (call, cells))

    def test_frames(self):
        cells = itertools.cycle(itertools.product((None, 7, 8), repeat=5))
        calls = itertools.cycle([
            (function, ("a", *number, nulls)) for function, number in
            [("first", ()), ("last", ()), ("nth", (1,)), ("nth", (2,)), ("nth", (3,))]
            for nulls in ("counted", "passed")
        ])
        for line, frame in lines_and_frames(3, (0, 1), WITHOUTS):
            many = len(line[1])
            call, held = next(calls), next(cells)[:many]
            wanted = [look_in_words(call, held, line, frame, place) for place in range(many)]
            self.assertEqual(offset_looks(call, held, line, frame), wanted, (call, held, line, frame))

    def test_every_answer_is_a_new_list(self):
        call = ("first", ("price", "counted"))
        line = line_of_values("up", (1, 2))
        offset_looks(call, (5, 6), line, RUNNING).clear()
        self.assertEqual(offset_looks(call, (5, 6), line, RUNNING), [(5,), (5,)])


if __name__ == "__main__":
    unittest.main()
