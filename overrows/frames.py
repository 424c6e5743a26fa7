"""Frames: the places of a partition that a row looks at."""

from overrows.tables import column_of, kind_among, named_cells
from overrows.values import is_number_from, is_tuple_of

OPPOSITES = {"start": "end", "before": "after", "here": "here", "after": "before", "end": "start"}


def is_frame(thing):
    """Whether thing is a FRAME."""
    if not is_tuple_of(4, thing):
        return False
    unit, low, high, without = thing
    if unit not in ("rows", "range", "groups") or without not in ("nobody", "row", "group", "ties"):
        return False
    return (low == ("start",) or _is_inner_bound(low)) and (high == ("end",) or _is_inner_bound(high))


def frame_fits(frame, order, columns):
    """Whether the FRAME may stand with this order."""
    unit, low, high, _ = frame
    by_value = unit == "range" and (_has_number(low) or _has_number(high))
    return not by_value or _is_one_number(order, columns)


def line_of(table, window, numbers):
    """The LINE of a partition, its ROW NUMBERs given in the window's order."""
    order = window[1]
    names = [item[0] for item in order]
    cells = [named_cells(table, number, names) for number in numbers]
    groups = _group_numbers(cells)
    if _is_one_number(order, table[0]):
        return order[0][1], tuple([(group, row[0]) for group, row in zip(groups, cells)])
    return "up", tuple([(group, None) for group in groups])


def bounds(line, place, frame):
    """The pair of the places between which the frame of a place lies, without regard to whom it leaves out."""
    unit, low, high, _ = frame
    return _low_place(line, place, unit, low), _high_place(line, place, unit, high)


def pieces(line, place, frame):
    """The triple (left, own, right) of the pairs of places of which the frame consists, or None for each."""
    low, high = bounds(line, place, frame)
    without = frame[3]
    if without == "nobody":
        return _piece(low, high), None, None
    first, last = (place, place) if without == "row" else _peer_ends(line, place)
    keeps_own = without == "ties" and low <= place <= high
    own = (place, place) if keeps_own else None
    return _piece(low, min(high, first - 1)), own, _piece(max(low, last + 1), high)


def stretches(line, place, frame):
    """The ascending tuple of the pairs of places of which the frame consists, neighbouring ones as one."""
    joined = []
    for piece in pieces(line, place, frame):
        if piece is None:
            continue
        if joined and joined[-1][1] + 1 == piece[0]:
            joined[-1] = (joined[-1][0], piece[1])
        else:
            joined.append(piece)
    return tuple(joined)


def frame_places(line, place, frame):
    """The ascending list of the places of the frame."""
    return [found for first, last in stretches(line, place, frame) for found in range(first, last + 1)]


def turned(frame):
    """The FRAME that holds a place for each place whose frame holds it."""
    unit, low, high, without = frame
    return unit, _opposite(high), _opposite(low), without


def holders(line, place, frame):
    """The stretches of the places whose frames have this place."""
    return stretches(line, place, turned(frame))


def _is_inner_bound(thing):
    if thing == ("here",):
        return True
    return is_tuple_of(2, thing) and thing[0] in ("before", "after") and is_number_from(0, thing[1])


def _has_number(bound):
    return bound[0] in ("before", "after")


def _is_one_number(order, columns):
    """Whether the order has exactly one item, with a column of numbers."""
    return len(order) == 1 and kind_among(columns, order[0][0]) == "number"


def _group_numbers(cells):
    """For each row of a partition in order the number of its peer group, from the cells that order it."""
    groups = []
    for index, row in enumerate(cells):
        if index == 0:
            groups.append(0)
        else:
            groups.append(groups[-1] + (0 if row == cells[index - 1] else 1))
    return groups


def _low_place(line, place, unit, bound):
    if bound[0] == "start":
        return 0
    first, marks, mark = _reach(line, place, unit, bound)
    return first + len([other for other in marks if other < mark])


def _high_place(line, place, unit, bound):
    if bound[0] == "end":
        return len(line[1]) - 1
    first, marks, mark = _reach(line, place, unit, bound)
    return first + len([other for other in marks if other <= mark]) - 1


def _reach(line, place, unit, bound):
    """The triple (first, marks, mark): ascending numbers of the places from first on, and the one the bound means.

    Marks below the mark are ahead of the bound and marks above it are behind it; there may be none like it.
    """
    way, entries = line
    group, value = entries[place]
    shift = _shift(bound)
    groups = [other for other, _ in entries]
    if unit == "rows":
        return 0, list(range(len(entries))), place + shift
    if unit == "groups":
        return 0, groups, group + shift
    if value is None:
        # There is no number to go on from: every bound but the ends then means the row's own peers.
        return 0, groups, group
    sign = 1 if way == "up" else -1
    first = [other is None for _, other in entries].index(False)
    return first, [sign * other for _, other in entries if other is not None], sign * value + shift


def _shift(bound):
    if bound[0] == "here":
        return 0
    return -bound[1] if bound[0] == "before" else bound[1]


def _peer_ends(line, place):
    """The pair of the first and the last place of the row's peers."""
    groups = [group for group, _ in line[1]]
    first = groups.index(groups[place])
    return first, first + groups.count(groups[place]) - 1


def _piece(first, last):
    return (first, last) if first <= last else None


def _opposite(bound):
    return (OPPOSITES[bound[0]],) + tuple(bound[1:])
