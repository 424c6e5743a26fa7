"""The definition: the figures of rows and the answers of queries, straight from the looks of the rows."""

from overrows.conditions import is_condition, is_keep_condition, kept, truth
from overrows.frames import frame_places, line_of
from overrows.functions import OFFSETS, RANKS, call_value, is_call, is_sum, kind_of
from overrows.offsets import offset_looks
from overrows.orders import is_order, ordered
from overrows.parts import is_window, partition_of, partitions
from overrows.ranks import rank_looks
from overrows.tables import cells_of, named_cells
from overrows.values import is_name, is_tuple_of, tupled


def is_figure(columns, thing):
    """Whether thing is a FIGURE for these columns."""
    if not is_tuple_of(5, thing):
        return False
    name, function, arguments, condition, window = thing
    if not is_name(name) or not is_call(columns, (function, arguments)) or not is_window(columns, window):
        return False
    return condition is None or (is_sum(function) and is_condition(columns, condition))


def is_query(columns, thing):
    """Whether thing is a QUERY for these columns."""
    if not is_tuple_of(4, thing):
        return False
    where, asked, keep, order = thing
    if where is not None and not is_condition(columns, where):
        return False
    if not isinstance(asked, tuple) or not all([is_figure(columns, figure) for figure in asked]):
        return False
    wide = wide_columns(columns, asked)
    if len({name for name, _ in wide}) != len(wide):
        return False
    return (keep is None or is_keep_condition(wide, keep)) and is_order(wide, order)


def look(table, figure, number):
    """The look of a row of the TABLE among all its rows."""
    numbers = partition_of(table, figure[4], number)
    return looks_along(table, figure, numbers)[numbers.index(number)]


def figures(table, query):
    """The list of pairs (ROW NUMBER, values), ascending, of the rows that are kept by where."""
    rows = kept(table, query[0])
    return side_by_side(rows, [values_of(rows, figure, partitions(rows, figure[4])) for figure in query[1]])


def answer(table, query):
    """The list of triples (ROW NUMBER, cells, values) of the rows that are kept by keep, in the order asked for."""
    return answer_with(table, query, figures(table, query))


def looks_along(table, figure, numbers):
    """The list of the looks of the rows of a partition, whose ROW NUMBERs are given in order."""
    _, function, arguments, _, window = figure
    line = line_of(table, window, numbers)
    if function in RANKS:
        return rank_looks(function, line)
    if function in OFFSETS:
        cells = tuple([named_cells(table, number, arguments[:1])[0] for number in numbers])
        return offset_looks((function, arguments), cells, line, window[2])
    entries = [look_entries(table, figure, number) for number in numbers]
    places = [frame_places(line, place, window[2]) for place in range(len(numbers))]
    return [tuple([entry for other in found for entry in entries[other]]) for found in places]


def look_entries(table, figure, number):
    """The tuple of what a row adds to the look of a sum whose frame has it: one entry, or none if it is not counted."""
    _, _, arguments, condition, _ = figure
    if condition is not None and truth(table[0], condition, cells_of(table, number)) is not True:
        return ()
    if len(arguments) == 0:
        return (1,)
    found = named_cells(table, number, arguments[:1])
    return () if found == (None,) else found


def values_of(table, figure, groups):
    """The dict of the values of a FIGURE by ROW NUMBER, of rows that are given partition by partition, in order."""
    call = (figure[1], figure[2])
    found = {}
    for numbers in groups:
        for number, seen in zip(numbers, looks_along(table, figure, numbers)):
            found[number] = call_value(call, seen)
    return found


def side_by_side(table, columns):
    """The list of pairs (ROW NUMBER, values), when each figure's values stand in a dict by ROW NUMBER."""
    return [(number, tuple([values[number] for values in columns])) for number, _ in table[1]]


def answer_with(table, query, valued):
    """The answer of a QUERY whose figures have these values, given as figures returns them."""
    columns = tupled(table[0])
    _, asked, keep, order = query
    rows = tuple([(number, cells_of(table, number) + values) for number, values in valued])
    left = kept((wide_columns(columns, asked), rows), keep)
    many = len(columns)
    found = [(number, cells_of(left, number)) for number in ordered(left, order)]
    return [(number, cells[:many], cells[many:]) for number, cells in found]


def wide_columns(columns, asked):
    """The columns of a TABLE with those of its FIGUREs behind them."""
    return tupled(columns) + tuple([(figure[0], kind_of(columns, (figure[1], figure[2]))) for figure in asked])
