"""Promises 1, 2 and 10: four ways to reckon sums, with their values and the number of their joins."""

import itertools
import unittest

from overrows.errors import NoWay
from overrows.frames import frame_places, pieces, stretches
from overrows.functions import call_value
from overrows.ways import reckoned, ways_of
from tests.samples import (
    RUNNING, UNITS, WITHOUTS, error_in_all_forms, frames_with, in_all_forms, line_of_sizes, line_of_values,
    lines_and_frames,
)

DAYS = ("up", ((0, 1), (0, 1), (1, 2), (1, 2), (2, None)))
PRICES = ((3,), (2,), (4,), (2,), ())
LAST_TWO = ("rows", ("before", 1), ("here",), "nobody")
ALL_WAYS = ["anew", "away", "piles", "halves"]
NO_TAKING = ["anew", "piles", "halves"]
TAKING_AWAY = [(function, unlike) for function in ("count", "sum", "mean") for unlike in (False, True)]
OTHERS = [("least", False), ("most", False), ("joined", False), ("joined", True)]


def held_in(cells, places):
    """The places of counted rows among these."""
    return [place for place in places if len(cells[place]) > 0]


def joins_anew(cells, line, frame):
    return sum(max(len(held_in(cells, frame_places(line, place, frame))) - 1, 0) for place in range(len(cells)))


def joins_away(cells, line, frame):
    found = 0
    held = set()
    for place in range(len(cells)):
        wanted = set(held_in(cells, frame_places(line, place, frame)))
        found += len(held - wanted) + len(wanted - held)
        held = wanted
    return found


def blocks_of(many):
    """The pairs (first, last) of all blocks of a LINE with so many places, found by trying every pair."""
    return [(first, last) for first in range(many) for last in range(first, many)
            if (last - first + 1) in (1, 2, 4, 8, 16, 32, 64) and first % (last - first + 1) == 0]


def fewest_blocks(first, last, blocks):
    """How few blocks make up a stretch, tried from its end to its start."""
    fewest = {last + 1: 0}
    for start in range(last, first - 1, -1):
        fewest[start] = 1 + min(fewest[end + 1] for begin, end in blocks if begin == start and end <= last)
    return fewest[first]


def joins_halves(line, frame):
    many = len(line[1])
    blocks = blocks_of(many)
    found = len([1 for first, last in blocks if last > first])
    for place in range(many):
        used = sum(fewest_blocks(first, last, blocks) for first, last in stretches(line, place, frame))
        found += max(used - 1, 0)
    return found


class Pile:
    """One piece, told by the numbers of its rows alone."""

    def __init__(self):
        self.old, self.young, self.joins = [], [], 0

    def step(self, wanted):
        if not set(self.old + self.young) & set(wanted):
            self.old, self.young = [], []
        before = self.old + self.young
        for row in wanted:
            if row not in before:
                self.joins += 1 if self.young else 0
                self.young = self.young + [row]
        for row in before:
            if row not in wanted:
                if not self.old:
                    self.joins += len(self.young) - 1
                    self.old, self.young = self.young, []
                self.old.remove(row)
        return (1 if self.old else 0) + (1 if self.young else 0)


def joins_piles(cells, line, frame):
    found = 0
    left_pile, right_pile = Pile(), Pile()
    for place in range(len(cells)):
        rows = [held_in(cells, range(piece[0], piece[1] + 1)) if piece else [] for piece in pieces(line, place, frame)]
        used = left_pile.step(rows[0]) + len(rows[1]) + right_pile.step(rows[2])
        found += max(used - 1, 0)
    return found + left_pile.joins + right_pile.joins


def joins_of(way, cells, line, frame):
    if way == "halves":
        return joins_halves(line, frame)
    return {"anew": joins_anew, "away": joins_away, "piles": joins_piles}[way](cells, line, frame)


def values_in_words(function, unlike, cells, line, frame):
    """The values of the frames' looks, place by place."""
    call = (function, ("c", "unlike") if unlike else ("c",))
    looks = [tuple(cells[other][0] for other in held_in(cells, frame_places(line, place, frame)))
             for place in range(len(cells))]
    return [call_value(call, look) for look in looks]


class WaysOf(unittest.TestCase):
    def test_each_function(self):
        for function, unlike in TAKING_AWAY:
            self.assertEqual(in_all_forms(self, ways_of, function=function, unlike=unlike), ALL_WAYS)
        for function, unlike in OTHERS:
            self.assertEqual(in_all_forms(self, ways_of, function=function, unlike=unlike), NO_TAKING)

    def test_every_answer_is_a_new_list(self):
        ways_of("sum", False).clear()
        self.assertEqual(ways_of("sum", False), ALL_WAYS)


class Reckoned(unittest.TestCase):
    def reckoned(self, function, cells, line, frame, way, unlike=False):
        return in_all_forms(
            self, reckoned, function=function, unlike=unlike, cells=cells, line=line, frame=frame, way=way)

    def test_examples(self):
        for way, joins in [("anew", 3), ("away", 7), ("piles", 5), ("halves", 5)]:
            self.assertEqual(self.reckoned("sum", PRICES, DAYS, LAST_TWO, way), ([3, 5, 6, 6, 2], joins))
        frame = ("rows", ("start",), ("end",), "row")
        self.assertEqual(self.reckoned("most", PRICES, DAYS, frame, "anew"), ([4, 4, 3, 4, 4], 11))

    def test_no_way(self):
        for function, unlike in OTHERS:
            arguments = {"function": function, "unlike": unlike, "cells": ((), ()), "line": line_of_sizes([2])}
            error_in_all_forms(
                self, NoWay, {"way": "away"}, reckoned, **arguments, frame=RUNNING, way="away")
        for function, unlike in TAKING_AWAY:
            self.assertEqual(reckoned(function, unlike, ((), ()), line_of_sizes([2]), RUNNING, "away")[1], 0)

    def test_counted_by_hand(self):
        line, cells = line_of_sizes([1] * 8), tuple((number,) for number in range(8))
        whole = ("rows", ("start",), ("end",), "nobody")
        running = RUNNING
        three = ("rows", ("before", 1), ("after", 1), "nobody")
        for frame, way, joins in [
            (whole, "anew", 8 * 7), (whole, "away", 8), (whole, "piles", 7), (whole, "halves", 7),
            (running, "anew", 28), (running, "away", 8), (running, "piles", 7), (running, "halves", 7 + 5),
            (three, "anew", 14), (three, "away", 8 + 6),
        ]:
            self.assertEqual(self.reckoned("sum", cells, line, frame, way)[1], joins, (frame, way))

    def test_piles_by_hand(self):
        line, cells = line_of_sizes([1] * 6), tuple((number,) for number in range(6))
        # Three rows come for a join each, four turn over for 3, and then the old pile goes together with the young one.
        frame = ("rows", ("before", 2), ("here",), "nobody")
        joins = 1 + 1 + 1 + 3 + 1 + 2
        self.assertEqual(self.reckoned("sum", cells, line, frame, "piles"), ([0, 1, 3, 6, 9, 12], joins))
        # No row stays from frame to frame, so nothing is turned over.
        frame = ("rows", ("here",), ("here",), "nobody")
        self.assertEqual(self.reckoned("sum", cells, line, frame, "piles"), ([0, 1, 2, 3, 4, 5], 0))

    def test_own_and_right_are_put_together(self):
        line, cells = line_of_sizes([3]), (("a",), ("b",), ("c",))
        frame = ("rows", ("start",), ("end",), "ties")
        for way, joins in [("anew", 0), ("piles", 0), ("halves", 1)]:
            self.assertEqual(self.reckoned("joined", cells, line, frame, way), (["a", "b", "c"], joins))
        line = line_of_sizes([1, 1, 1])
        for way, joins in [("anew", 6), ("piles", 1 + 1 + 2 + 1 + 1 + 1), ("halves", 4)]:
            self.assertEqual(self.reckoned("joined", cells, line, frame, way), (["a,b,c"] * 3, joins))

    def test_rows_that_are_not_counted(self):
        line, frame = line_of_sizes([1] * 5), ("rows", ("start",), ("end",), "nobody")
        for way, joins in [("anew", 5), ("away", 2), ("piles", 1), ("halves", 3 + 5)]:
            self.assertEqual(self.reckoned("sum", ((), (4,), (), (5,), ()), line, frame, way), ([9] * 5, joins))
        for way, joins in [("anew", 0), ("away", 0), ("piles", 0), ("halves", 8)]:
            self.assertEqual(self.reckoned("sum", ((),) * 5, line, frame, way), ([None] * 5, joins))
            self.assertEqual(self.reckoned("count", ((),) * 5, line, frame, way), ([0] * 5, joins))

    def test_a_line_of_one_place(self):
        for line in (line_of_sizes([1]), line_of_values("down", (3,)), line_of_values("up", (None,))):
            for without, value in [("nobody", 7), ("row", None), ("group", None), ("ties", 7)]:
                for frame in frames_with(("rows", "groups"), (0,), (without,)):
                    for way in ALL_WAYS:
                        joins = 1 if way == "away" and value == 7 else 0
                        self.assertEqual(self.reckoned("sum", ((7,),), line, frame, way), ([value], joins))

    def test_unlike_values_across_pieces(self):
        line, cells = line_of_sizes([1, 2, 2]), (("b",), ("a",), ("b",), ("b",), ("a",))
        frame = ("rows", ("start",), ("end",), "row")
        wanted = ["a,b", "b,a", "b,a", "b,a", "b,a"]
        for way in NO_TAKING:
            self.assertEqual(self.reckoned("joined", cells, line, frame, way, unlike=True)[0], wanted)
        numbers = ((2,), (1,), (2,), (2,), (1,))
        for way in ALL_WAYS:
            self.assertEqual(self.reckoned("mean", numbers, line, frame, way, unlike=True)[0], [(3, 2)] * 5)
            self.assertEqual(self.reckoned("sum", numbers, line, frame, way)[0], [6, 7, 6, 6, 7])

    def test_every_answer_is_a_new_list(self):
        for way in ALL_WAYS:
            reckoned("sum", False, PRICES, DAYS, LAST_TWO, way)[0].clear()
            self.assertEqual(reckoned("sum", False, PRICES, DAYS, LAST_TWO, way)[0], [3, 5, 6, 6, 2])


class SmallPartitions(unittest.TestCase):
    def check(self, function, unlike, cells, line, frame):
        wanted = values_in_words(function, unlike, cells, line, frame)
        for way in ways_of(function, unlike):
            values, joins = reckoned(function, unlike, cells, line, frame, way)
            where = (function, unlike, cells, line, frame, way)
            self.assertEqual(values, wanted, where)
            self.assertEqual(joins, joins_of(way, cells, line, frame), where)

    def test_all_ways_over_small_lines(self):
        calls = itertools.cycle(TAKING_AWAY + OTHERS)
        counted = itertools.cycle([(1, 1, 1), (1, 1, 1), (1, 0, 1), (0, 1, 1), (0, 0, 1), (0, 0, 0), (1, 1, 0)])
        values = itertools.cycle(itertools.product((1, 2), repeat=3))
        for line, frame in lines_and_frames(3, (0, 1), WITHOUTS):
            function, unlike = next(calls)
            held = zip(next(counted), next(values))
            entries = tuple((str(value) if function == "joined" else value,) if count else () for count, value in held)
            self.check(function, unlike, entries[:len(line[1])], line, frame)

    def test_all_ways_over_longer_lines(self):
        lines = [
            line_of_sizes([1] * 9), line_of_sizes([3, 1, 2, 4, 1]), line_of_sizes([7]),
            line_of_values("up", (None, None, -1, 0, 0, 2, 5, 5)), line_of_values("down", (9, 6, 6, 5, 1, 1, None)),
            line_of_values("up", (0, 1, 2, 3, 3, 4, None, None)), line_of_values("down", (None, 4, 4, 2, 0)),
        ]
        patterns = itertools.cycle([(1,), (1, 1, 0), (0, 1)])
        for line in lines:
            units = UNITS if any(value is not None for _, value in line[1]) else ("rows", "groups")
            for frame in frames_with(units, (1, 3), WITHOUTS):
                pattern = next(patterns)
                counted = [pattern[place % len(pattern)] for place in range(len(line[1]))]
                numbers = tuple((place * 7 % 4,) if count else () for place, count in enumerate(counted))
                texts = tuple(tuple("abcd"[number] for number in entries) for entries in numbers)
                self.check("sum", False, numbers, line, frame)
                self.check("joined", True, texts, line, frame)


if __name__ == "__main__":
    unittest.main()
