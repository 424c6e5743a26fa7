"""Promises 2 and 7: the looks of ranks, place by place."""

import unittest

from overrows.frames import line_of
from overrows.functions import call_value
from overrows.parts import is_ahead, partitions, peers
from overrows.ranks import rank_looks
from tests.samples import RUNNING, SHOP, in_all_forms, line_of_sizes, line_of_values

DAYS = ("up", ((0, 1), (0, 1), (1, 2), (1, 2), (2, None)))
LINES = [
    DAYS,
    line_of_values("down", (None, None, 7, 7, 7, 2)),
    line_of_sizes([3]),
    line_of_sizes([1, 1, 1]),
    line_of_sizes([2, 3, 1, 4]),
]


def look_in_words(function, groups, place):
    """The look of a rank, counted row by row."""
    many = range(len(groups))
    ahead = len([other for other in many if other < place])
    ahead_of_peers = len([other for other in many if groups[other] < groups[place]])
    own = len([other for other in many if groups[other] == groups[place]])
    groups_ahead = len({groups[other] for other in many if groups[other] < groups[place]})
    return {
        "row": (ahead,),
        "rank": (ahead_of_peers,),
        "dense": (groups_ahead,),
        "percent": (ahead_of_peers, len(groups)),
        "share": (ahead_of_peers + own, len(groups)),
        "tile": (ahead, len(groups)),
    }[function]


class RankLooks(unittest.TestCase):
    def test_examples(self):
        self.assertEqual(
            in_all_forms(self, rank_looks, function="rank", line=DAYS), [(0,), (0,), (2,), (2,), (4,)])
        self.assertEqual(
            in_all_forms(self, rank_looks, function="share", line=DAYS), [(2, 5), (2, 5), (4, 5), (4, 5), (5, 5)])

    def test_the_others(self):
        self.assertEqual(in_all_forms(self, rank_looks, function="row", line=DAYS), [(0,), (1,), (2,), (3,), (4,)])
        self.assertEqual(in_all_forms(self, rank_looks, function="dense", line=DAYS), [(0,), (0,), (1,), (1,), (2,)])
        self.assertEqual(
            in_all_forms(self, rank_looks, function="percent", line=DAYS), [(0, 5), (0, 5), (2, 5), (2, 5), (4, 5)])
        self.assertEqual(
            in_all_forms(self, rank_looks, function="tile", line=DAYS), [(0, 5), (1, 5), (2, 5), (3, 5), (4, 5)])

    def test_a_row_alone(self):
        wanted = {"row": (0,), "rank": (0,), "dense": (0,), "percent": (0, 1), "share": (1, 1), "tile": (0, 1)}
        for function, look in wanted.items():
            for line in (line_of_sizes([1]), line_of_values("down", (4,)), line_of_values("up", (None,))):
                self.assertEqual(in_all_forms(self, rank_looks, function=function, line=line), [look])

    def test_lines_counted_row_by_row(self):
        for function in ("row", "rank", "dense", "percent", "share", "tile"):
            for line in LINES:
                groups = [group for group, _ in line[1]]
                wanted = [look_in_words(function, groups, place) for place in range(len(groups))]
                self.assertEqual(in_all_forms(self, rank_looks, function=function, line=line), wanted)

    def test_shop_by_comparing_two_rows(self):
        window = (("kind",), (("price", "down", "last"),), RUNNING)
        for numbers in partitions(SHOP, window):
            line = line_of(SHOP, window, numbers)
            for number, look in zip(numbers, rank_looks("row", line)):
                self.assertEqual(look, (sum(is_ahead(SHOP, window, other, number) for other in numbers),))
            for number, look in zip(numbers, rank_looks("rank", line)):
                first = peers(SHOP, window, number)[0]
                self.assertEqual(look, (sum(is_ahead(SHOP, window, other, first) for other in numbers),))

    def test_values_of_the_looks(self):
        line = line_of_sizes([2, 1, 3])
        wanted = {
            ("row", ()): [1, 2, 3, 4, 5, 6],
            ("rank", ()): [1, 1, 3, 4, 4, 4],
            ("dense", ()): [1, 1, 2, 3, 3, 3],
            ("percent", ()): [(0, 1), (0, 1), (2, 5), (3, 5), (3, 5), (3, 5)],
            ("share", ()): [(1, 3), (1, 3), (1, 2), (1, 1), (1, 1), (1, 1)],
            ("tile", (4,)): [1, 1, 2, 2, 3, 4],
        }
        for call, values in wanted.items():
            self.assertEqual([call_value(call, look) for look in rank_looks(call[0], line)], values)

    def test_every_answer_is_a_new_list(self):
        rank_looks("row", DAYS).clear()
        self.assertEqual(rank_looks("row", DAYS), [(0,), (1,), (2,), (3,), (4,)])


if __name__ == "__main__":
    unittest.main()
