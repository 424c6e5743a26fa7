"""Filters that may pass: conditions on one column that no figure can tell from a filter behind it."""

from overrows.conditions import is_condition
from overrows.errors import NotFree, NotSimple
from overrows.functions import RANKS, is_sum
from overrows.needs import short_order
from overrows.tables import kind_among
from overrows.values import is_number, tupled


def may_pass(columns, figures, condition):
    """Whether in every TABLE each kept row has the same values among all rows and among the kept rows alone."""
    check_asked(columns, figures, condition)
    return all([lets_pass(figure, tupled(condition)) for figure in tupled(figures)])


def moved(columns, query):
    """The QUERY in which the filters stand as early as they may."""
    where, asked, keep, order = tupled(query)
    staying = None
    for term in _terms(keep):
        if _goes(columns, asked, term):
            where = _both(where, term)
        else:
            staying = _both(staying, term)
    return where, asked, staying, order


def check_asked(columns, figures, condition):
    """Raise NotSimple or NotFree if the CONDITION is not simple, or a FIGURE not free of its column."""
    if not _is_simple(columns, condition):
        raise NotSimple(tupled(condition))
    for figure in figures:
        if not _is_free(figure, asked_column(condition)):
            raise NotFree(figure[0])


def asked_column(condition):
    """The column that a simple CONDITION names."""
    return asked_column(condition[1]) if condition[0] == "not" else condition[1][1]


def lets_pass(figure, condition):
    """Whether a FIGURE that is free of the column of a simple CONDITION lets it pass, both made of tuples."""
    _, function, arguments, _, window = figure
    if asked_column(condition) in window[0]:
        return True
    before, beside, behind = lost_places(window, condition)
    if function in RANKS:
        return _rank_lets_pass(figure, condition)
    if function == "earlier":
        return arguments[1] == 0 or not (before or beside)
    if function == "later":
        return arguments[1] == 0 or not (behind or beside)
    ahead, after = _held_lost(window, condition)
    if not ahead and not after:
        return True
    return not is_sum(function) and _chosen_lets_pass(figure, condition, ahead, after)


def lost_places(window, condition):
    """The triple: whether lost rows can be before a kept row, beside it and behind it.

    The column of the CONDITION is none of the parts of the WINDOW.
    """
    short = short_order(window)
    names = [name for name, _, _ in short]
    column = asked_column(condition)
    if len(short) == 0:
        return False, True, False
    if names[0] != column:
        return True, column not in names, True
    before, behind = _lost_sides(condition, short[0])
    return before, False, behind


def reach(frame, far):
    """The pair of the bounds of a FRAME as numbers, those without limit this far away."""
    return _reach_of(frame[1], far), _reach_of(frame[2], far)


def beyond(frame):
    """A number that is greater than all numbers in the bounds of a FRAME."""
    return 1 + max([0, *frame[1][1:], *frame[2][1:]])


def is_by_value(frame):
    """Whether the FRAME is a range with a number."""
    return frame[0] == "range" and (len(frame[1]) == 2 or len(frame[2]) == 2)


def _terms(condition):
    """The list of the terms of a CONDITION, none of None."""
    if condition is None:
        return []
    if condition[0] == "and":
        return _terms(condition[1]) + _terms(condition[2])
    return [condition]


def _both(condition, term):
    return term if condition is None else ("and", condition, term)


def _goes(columns, asked, term):
    """Whether a term of keep may stand in where."""
    # In keep there may be figures and FRACTIONs, with which no term is a CONDITION for the columns.
    if not is_condition(columns, term) or not _is_simple(columns, term):
        return False
    column = asked_column(term)
    return all([_is_free(figure, column) and lets_pass(figure, term) for figure in asked])


def _is_simple(columns, condition):
    word, item = condition[0], condition[1]
    if word == "not":
        return item[0] == "null" and item[1][0] == "column"
    if word == "null":
        return item[0] == "column"
    if word != "compare" or item[0] != "column" or kind_among(columns, item[1]) != "number":
        return False
    return condition[3][0] == "plain" and is_number(condition[3][1])


def _is_free(figure, column):
    _, function, arguments, condition, window = figure
    if condition is not None:
        return False
    named = [] if function in RANKS else list(arguments[:1])
    barred = [column, *window[0], *[item[0] for item in window[1]]]
    return not any([name in barred for name in named])


def _lost_numbers(condition):
    """The pair: whether some lost number is less than a kept one, and whether some lost one is greater."""
    if condition[0] != "compare":
        return False, False
    sign = condition[2]
    return sign in ("=", "<>", ">", ">="), sign in ("=", "<>", "<", "<=")


def _lost_sides_by_number(condition, item):
    """The pair: whether by an item of an ORDER some lost number stands before a kept one, and behind one."""
    lesser, greater = _lost_numbers(condition)
    return (lesser, greater) if item[1] == "up" else (greater, lesser)


def _lost_sides(condition, item):
    """The pair: whether by an item of an ORDER some lost value stands before a kept one, and behind one."""
    nulls_first = item[2] == "first"
    if condition[0] == "null":
        return not nulls_first, nulls_first
    before, behind = _lost_sides_by_number(condition, item)
    return before or nulls_first, behind or not nulls_first


def _reach_of(bound, far):
    if bound[0] == "here":
        return 0
    if bound[0] in ("start", "before"):
        return -bound[1] if len(bound) == 2 else -far
    return bound[1] if len(bound) == 2 else far


def _rank_lets_pass(figure, condition):
    _, function, arguments, _, window = figure
    before, beside, behind = lost_places(window, condition)
    if function == "row":
        return not before and not beside
    if function == "tile":
        return arguments[0] == 1
    if function in ("rank", "dense"):
        return not before
    on_its_side = before if function == "percent" else behind
    return not on_its_side and _are_kept_peers(window, condition)


def _are_kept_peers(window, condition):
    """Whether in every TABLE all kept rows of a partition are PEERs."""
    short = short_order(window)
    return len(short) == 0 or (_is_alone(short, condition) and _keeps_one_value(condition))


def _is_alone(short, condition):
    return [name for name, _, _ in short] == [asked_column(condition)]


def _keeps_one_value(condition):
    return condition[0] == "null" or (condition[0] == "compare" and condition[2] == "=")


def _held_lost(window, condition):
    """The pair: whether the frame of a kept row can hold lost rows ahead of its place, and behind it."""
    before, beside, behind = lost_places(window, condition)
    unit, start, end, without = window[2]
    low, high = reach(window[2], beyond(window[2]))
    back, on = low < 0 and low <= high, high > 0 and low <= high
    if unit == "rows":
        if len(short_order(window)) == 0 and without in ("group", "ties"):
            return False, False
        return back and (before or beside), on and (behind or beside)
    if _is_over_asked(window, condition):
        by_number = _lost_sides_by_number(condition, window[1][0])
        before = before if start[0] == "start" else by_number[0]
        behind = behind if end[0] == "end" else by_number[1]
    # Rows without a value are near by every range with a number.
    near = low <= 0 <= high or is_by_value(window[2])
    around = near and beside and without in ("nobody", "row")
    return (back and before) or around, (on and behind) or around


def _is_over_asked(window, condition):
    """Whether the FRAME is a range with a number along the column of the CONDITION."""
    return is_by_value(window[2]) and window[1][0][0] == asked_column(condition)


def _chosen_lets_pass(figure, condition, ahead, after):
    """Whether "first", "last" or "nth" lets pass, when a frame can hold lost rows on these sides of a kept row."""
    _, function, arguments, _, window = figure
    if function == "nth" and not _can_have(window, condition, arguments[1]):
        return True
    if arguments[-1] == "passed" or not _are_kept_in_own(window, condition):
        return False
    if function == "last":
        return not after
    return not ahead and (function == "first" or arguments[1] == 1)


def _are_kept_in_own(window, condition):
    """Whether every kept row is in its own frame."""
    frame = window[2]
    low, high = reach(frame, beyond(frame))
    # Only rows without a value are kept by "null", and these are near by every range with a number.
    always = _is_over_asked(window, condition) and condition[0] == "null"
    return frame[3] in ("nobody", "ties") and (low <= 0 <= high or always)


def _can_have(window, condition, many):
    """Whether the frame of a kept row, that can hold lost rows, can have so many rows."""
    frame = window[2]
    if frame[0] != "rows":
        # Of the lost rows that it holds there can be any number that are alike.
        return True
    low, high = reach(frame, beyond(frame) + many)
    short = short_order(window)
    if condition[0] == "null" and _is_alone(short, condition) and frame[3] in ("group", "ties"):
        # All kept rows are PEERs then, and lost rows stand on one side of them only.
        before, behind = _lost_sides(condition, short[0])
        low = low if before else max(low, 0)
        high = high if behind else min(high, 0)
    leaves_own_out = low <= 0 <= high and frame[3] in ("row", "group")
    return high - low + 1 - (1 if leaves_own_out else 0) >= many
