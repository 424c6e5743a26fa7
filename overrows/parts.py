"""Partitions: the rows that a window looks at together, and how they stand to each other."""

from overrows.frames import frame_fits, is_frame
from overrows.orders import is_order, ordered
from overrows.tables import cells_of, kind_among, named_cells
from overrows.values import is_tuple_of


def is_window(columns, thing):
    """Whether thing is a WINDOW of these columns."""
    if not is_tuple_of(3, thing):
        return False
    parts, order, frame = thing
    if not _are_parts(columns, parts) or not is_order(columns, order) or not is_frame(frame):
        return False
    return frame_fits(frame, order, columns)


def partitions(table, window):
    """The list of the partitions, by their least ROW NUMBERs, each in the WINDOW's order."""
    parts, order, _ = window
    return sorted(grouped(table, parts, ordered(table, order)), key=min)


def partition_of(table, window, number):
    """The partition of a row, in the WINDOW's order."""
    parts, order, _ = window
    alike = named_cells(table, number, parts)
    return tuple([other for other in ordered(table, order) if named_cells(table, other, parts) == alike])


def peers(table, window, number):
    """The peer group of a row."""
    names = [item[0] for item in window[1]]
    alike = named_cells(table, number, names)
    partition = partition_of(table, window, number)
    return tuple([other for other in partition if named_cells(table, other, names) == alike])


def is_ahead(table, window, one, other):
    """Whether both rows are in one partition and row one stands ahead of row other."""
    partition = partition_of(table, window, one)
    # Asked only so that a missing row raises NoRow.
    cells_of(table, other)
    return other in partition and partition.index(one) < partition.index(other)


def grouped(table, names, numbers):
    """The list of the tuples of those ROW NUMBERs whose rows are alike in these columns, in the order given."""
    found = {}
    for number in numbers:
        found.setdefault(named_cells(table, number, names), []).append(number)
    return [tuple(group) for group in found.values()]


def _are_parts(columns, thing):
    if not isinstance(thing, tuple):
        return False
    if not all([kind_among(columns, name) is not None for name in thing]):
        return False
    return len(set(thing)) == len(thing)
