"""The definition once more, by the words of the document and row by row, to compare the program with."""

import functools
from fractions import Fraction

from overrows.frames import frame_places, line_of
from overrows.functions import call_value


def size(value):
    """A value that Python compares by its size."""
    return Fraction(*value) if isinstance(value, tuple) else value


def compared(columns, order, one, other):
    """-1, 0 or 1: how two rows (number, cells) stand to each other in an ORDER, without their numbers."""
    names = [name for name, _ in columns]
    for name, way, nulls in order:
        values = [size(row[1][names.index(name)]) for row in (one, other)]
        if values[0] == values[1]:
            continue
        if None in values:
            return -1 if (values[0] is None) == (nulls == "first") else 1
        return -1 if (values[0] < values[1]) == (way == "up") else 1
    return 0


def in_order(columns, order, rows):
    """The rows in an ORDER, equal ones by their numbers."""
    def by_order(one, other):
        return compared(columns, order, one, other) or (-1 if one[0] < other[0] else 1)
    return sorted(rows, key=functools.cmp_to_key(by_order))


def alike(columns, names, one, other):
    """Whether two rows have the same cells in these columns."""
    places = [place for place, (name, _) in enumerate(columns) if name in names]
    return all(one[1][place] == other[1][place] for place in places)


def holds(columns, condition, cells):
    """The truth of a CONDITION."""
    word, *parts = condition
    values = dict(zip([name for name, _ in columns], cells))
    if word == "null":
        return (values[parts[0][1]] if parts[0][0] == "column" else parts[0][1]) is None
    if word == "compare":
        one, other = [size(values[item[1]] if item[0] == "column" else item[1]) for item in (parts[0], parts[2])]
        if one is None or other is None:
            return None
        return {"=": one == other, "<>": one != other, "<": one < other, "<=": one <= other, ">": one > other,
                ">=": one >= other}[parts[1]]
    truths = [holds(columns, part, cells) for part in parts]
    if word == "not":
        return {True: False, False: True, None: None}[truths[0]]
    if word == "and":
        return False if False in truths else None if None in truths else True
    return True if True in truths else None if None in truths else False


def rows_behind(table, figure, number):
    """The REASON of a row in a FIGURE, and the values that these rows show, or None for a rank."""
    columns, rows = table
    _, function, arguments, condition, window = figure
    parts, order, frame = window
    own = [row for row in rows if row[0] == number][0]
    partition = in_order(columns, order, [row for row in rows if alike(columns, parts, row, own)])
    ahead = [row for row in partition if compared(columns, order, row, own) < 0]
    same = [row for row in partition if compared(columns, order, row, own) == 0]
    place = partition.index(own)
    firsts = [row for at, row in enumerate(ahead) if at == 0 or compared(columns, order, ahead[at - 1], row) < 0]
    ranks = {
        "row": [partition[:place]], "rank": [ahead], "dense": [firsts], "percent": [ahead, partition],
        "share": [ahead + same, partition], "tile": [partition[:place], partition],
    }
    if function in ranks:
        return tuple(tuple(row[0] for row in counted) for counted in ranks[function]), None
    names = [name for name, _ in columns]
    column = names.index(arguments[0]) if arguments else None
    line = line_of(table, window, [row[0] for row in partition])
    framed = [partition[other] for other in frame_places(line, place, frame)]
    if function in ("count", "sum", "mean", "least", "most", "joined"):
        found = [row for row in framed if condition is None or holds(columns, condition, row[1]) is True]
        if column is not None:
            found = [row for row in found if row[1][column] is not None]
    else:
        found = offset_rows(function, arguments, column, partition, place, framed)
    values = tuple(1 if column is None else row[1][column] for row in found)
    return (tuple(row[0] for row in found),), values


def offset_rows(function, arguments, column, partition, place, framed):
    """The list of the one row that an offset shows, or of none."""
    if function in ("earlier", "later"):
        if arguments[1] == 0:
            return [partition[place]]
        turn, number = partition[:place][::-1] if function == "earlier" else partition[place + 1:], arguments[1]
    else:
        turn, number = framed[::-1] if function == "last" else framed, arguments[1] if function == "nth" else 1
    if arguments[-1] == "passed":
        turn = [row for row in turn if row[1][column] is not None]
    return turn[number - 1:number]


def look_of(table, figure, number):
    """The look of a row in a FIGURE."""
    reason, values = rows_behind(table, figure, number)
    return tuple(len(counted) for counted in reason) if values is None else values


def figures_of(table, query):
    """The pairs (ROW NUMBER, values) of the rows that where keeps."""
    columns, rows = table
    where, figures, _, _ = query
    left = tuple(row for row in rows if where is None or holds(columns, where, row[1]) is True)
    return [(number, tuple(call_value(figure[1:3], look_of((columns, left), figure, number)) for figure in figures))
            for number, _ in left]


def answer_of(table, query):
    """The answer of a QUERY."""
    columns, rows = table
    _, figures, keep, order = query
    cells_by_number = dict(rows)
    wide = columns + tuple((figure[0], None) for figure in figures)
    found = [(number, cells_by_number[number] + values) for number, values in figures_of(table, query)]
    found = [row for row in found if keep is None or holds(wide, keep, row[1]) is True]
    many = len(columns)
    return [(number, row[:many], row[many:]) for number, row in in_order(wide, order, found)]
