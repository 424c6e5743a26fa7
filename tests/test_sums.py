"""Promises 2 and 10: states of rows, put together, taken apart and read."""

import copy
import itertools
import unittest

from overrows.functions import call_value
from overrows.sums import bare, joined_states, lifted, state_value, taken_away
from tests.samples import in_all_forms

# Every sum with the values that its look may have.
SUMS = [
    ("count", False, (1,)), ("count", False, ("b", "a")), ("count", True, (3, -1)), ("count", True, ("b", "a")),
    ("sum", False, (3, -1)), ("sum", True, (3, -1)), ("mean", False, (3, -1)), ("mean", True, (3, -2)),
    ("least", False, (3, -1)), ("least", False, ("b", "a")), ("most", False, (3, -1)), ("most", False, ("b", "a")),
    ("joined", False, ("b", "a", "")), ("joined", True, ("b", "a", "")),
]
TAKING_AWAY = [one for one in SUMS if one[0] in ("count", "sum", "mean")]


def value_of(function, unlike, values):
    """The value that the document states for a look."""
    return call_value((function, ("c", "unlike") if unlike else ("c",)), tuple(values))


def state_of(function, unlike, values):
    """The state of these values, put together one by one."""
    state = bare(function, unlike)
    for value in values:
        state = joined_states(function, unlike, state, lifted(function, unlike, value))
    return state


class States(unittest.TestCase):
    def test_no_rows(self):
        for function, unlike, _ in SUMS:
            state = in_all_forms(self, bare, function=function, unlike=unlike)
            wanted = 0 if function == "count" else None
            self.assertEqual(in_all_forms(self, state_value, function=function, unlike=unlike, state=state), wanted)

    def test_one_row(self):
        for function, unlike, values in SUMS:
            for value in values:
                state = in_all_forms(self, lifted, function=function, unlike=unlike, value=value)
                self.assertEqual(
                    in_all_forms(self, state_value, function=function, unlike=unlike, state=state),
                    value_of(function, unlike, [value]))

    def test_rows_put_together_at_any_place(self):
        for function, unlike, values in SUMS:
            for many in range(5):
                for look in itertools.product(values, repeat=many):
                    for cut in range(many + 1):
                        early, late = state_of(function, unlike, look[:cut]), state_of(function, unlike, look[cut:])
                        state = joined_states(function, unlike, early, late)
                        self.assertEqual(
                            state_value(function, unlike, state), value_of(function, unlike, look), (function, look))

    def test_put_together_in_all_forms(self):
        for function, unlike, values in SUMS:
            early, late = state_of(function, unlike, values), state_of(function, unlike, values[::-1])
            state = in_all_forms(self, joined_states, function=function, unlike=unlike, early=early, late=late)
            wanted = value_of(function, unlike, values + values[::-1])
            self.assertEqual(in_all_forms(self, state_value, function=function, unlike=unlike, state=state), wanted)

    def test_rows_taken_away(self):
        for function, unlike, values in TAKING_AWAY:
            for look in itertools.product(values, repeat=4):
                for many in range(5):
                    for part in itertools.combinations(range(4), many):
                        state = state_of(function, unlike, look)
                        without = taken_away(
                            function, unlike, state, state_of(function, unlike, [look[place] for place in part]))
                        left = [look[place] for place in range(4) if place not in part]
                        self.assertEqual(state_value(function, unlike, without), value_of(function, unlike, left))

    def test_taken_away_in_all_forms(self):
        for function, unlike, values in TAKING_AWAY:
            state = state_of(function, unlike, values + values)
            part = state_of(function, unlike, values[:1])
            left = in_all_forms(self, taken_away, function=function, unlike=unlike, state=state, part=part)
            wanted = value_of(function, unlike, values + values[1:])
            self.assertEqual(in_all_forms(self, state_value, function=function, unlike=unlike, state=left), wanted)

    def test_put_together_again_after_all_is_taken_away(self):
        for function, unlike, values in TAKING_AWAY:
            state = state_of(function, unlike, values)
            nothing = taken_away(function, unlike, state, state)
            self.assertEqual(state_value(function, unlike, nothing), value_of(function, unlike, []))
            again = joined_states(function, unlike, nothing, state)
            self.assertEqual(state_value(function, unlike, again), value_of(function, unlike, values))

    def test_rows_taken_away_one_by_one(self):
        for function, unlike, values in TAKING_AWAY:
            for look in itertools.product(values, repeat=4):
                state = state_of(function, unlike, look)
                for many, value in enumerate(look):
                    state = taken_away(function, unlike, state, lifted(function, unlike, value))
                    wanted = value_of(function, unlike, look[many + 1:])
                    self.assertEqual(state_value(function, unlike, state), wanted, (function, look))

    def test_no_rows_put_together_with_others(self):
        for function, unlike, values in SUMS:
            nothing = joined_states(function, unlike, bare(function, unlike), bare(function, unlike))
            one = lifted(function, unlike, values[0])
            for early, late in [(nothing, one), (one, nothing)]:
                state = joined_states(function, unlike, early, late)
                self.assertEqual(state_value(function, unlike, state), value_of(function, unlike, values[:1]))

    def test_states_stay_as_they_were(self):
        for function, unlike, values in SUMS:
            one, other = state_of(function, unlike, values), state_of(function, unlike, values[:1])
            before = copy.deepcopy((one, other))
            joined_states(function, unlike, one, other)
            state_value(function, unlike, one)
            if function in ("count", "sum", "mean"):
                taken_away(function, unlike, one, other)
            self.assertEqual((one, other), before)

    def test_texts_in_order(self):
        state = state_of("joined", False, ["tea", "rice", "tea"])
        self.assertEqual(state_value("joined", False, state), "tea,rice,tea")
        state = state_of("joined", True, ["tea", "rice", "tea", "salt", "rice"])
        self.assertEqual(state_value("joined", True, state), "tea,rice,salt")

    def test_numbers(self):
        big = 10 ** 12
        self.assertEqual(state_value("mean", False, state_of("mean", False, [3, 4, 5, 2])), (7, 2))
        self.assertEqual(state_value("mean", True, state_of("mean", True, [3, 3, 4])), (7, 2))
        self.assertEqual(state_value("mean", False, state_of("mean", False, [-1, 0, 0])), (-1, 3))
        self.assertEqual(state_value("sum", False, state_of("sum", False, [big] * 40)), 40 * big)
        self.assertEqual(state_value("sum", True, state_of("sum", True, [big] * 40)), big)
        self.assertEqual(state_value("sum", False, state_of("sum", False, [1, -1])), 0)
        self.assertEqual(state_value("count", True, state_of("count", True, [0, 0, 5])), 2)


if __name__ == "__main__":
    unittest.main()
