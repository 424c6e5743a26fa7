"""Sums: states of some rows in order, and how two of them become one.

A state is a tuple. Of sums of unlike values, but "joined", it has ascending pairs (value, how often it comes); of the
other sums it has what is written at each line below.
"""

from overrows.functions import sum_value
from overrows.values import fraction


def bare(function, unlike):
    """The STATE of no rows."""
    if unlike or function in ("least", "most", "joined"):
        return ()
    return (0,) if function == "count" else (0, 0)


def lifted(function, unlike, value):
    """The STATE of one look entry."""
    if unlike and function != "joined":
        return ((value, 1),)
    if function in ("least", "most", "joined"):
        return (value,)
    return (1,) if function == "count" else (value, 1)


def joined_states(function, unlike, early, late):
    """The STATE of the rows of both, the early ones ahead."""
    if function == "joined":
        return (*early, *[text for text in late if not unlike or text not in early])
    if unlike:
        return _times_changed(early, late, 1)
    if function in ("least", "most"):
        both = (*early, *late)
        return both if len(both) == 0 else (sum_value(function, both),)
    return tuple([one + other for one, other in zip(early, late)])


def taken_away(function, unlike, state, part):
    """The STATE of the rows of state without those of part, for count, sum and mean."""
    if unlike:
        return _times_changed(state, part, -1)
    return tuple([one - other for one, other in zip(state, part)])


def state_value(function, unlike, state):
    """The value of the rows of a STATE."""
    if unlike and function != "joined":
        return sum_value(function, [value for value, _ in state])
    if function in ("least", "most", "joined"):
        return sum_value(function, state)
    if function == "count":
        return state[0]
    total, many = state
    if many == 0:
        return None
    return total if function == "sum" else fraction(total, many)


def _times_changed(state, part, sign):
    """The pairs of the state, with the times of the part added or taken away."""
    times = {value: many for value, many in state}
    for value, many in part:
        times[value] = times.get(value, 0) + sign * many
    return tuple(sorted([(value, many) for value, many in times.items() if many != 0]))
