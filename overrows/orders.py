"""Orders: which row stands ahead of which."""

from math import lcm

from overrows.tables import column_of, kind_among
from overrows.values import is_tuple_of


def is_order(columns, thing):
    """Whether thing is an ORDER of these columns."""
    return isinstance(thing, tuple) and all([_is_order_item(columns, item) for item in thing])


def ordered(table, order):
    """The list of all ROW NUMBERs in the ORDER."""
    rows = table[1]
    keys = [_item_keys(_column_cells(table, name), way, nulls) for name, way, nulls in order]
    placed = [([key[index] for key in keys], row[0]) for index, row in enumerate(rows)]
    return [number for _, number in sorted(placed)]


def _is_order_item(columns, thing):
    if not is_tuple_of(3, thing):
        return False
    name, way, nulls = thing
    return kind_among(columns, name) is not None and way in ("up", "down") and nulls in ("first", "last")


def _column_cells(table, name):
    index = column_of(table, name)
    return [cells[index] for _, cells in table[1]]


def _item_keys(cells, way, nulls):
    """For each cell a number, the lesser the further ahead its row stands by one item."""
    measures = _measures(cells)
    # Texts have no negative to turn their order around, but their places have one.
    known = sorted({measure for measure in measures if measure is not None})
    sign = 1 if way == "up" else -1
    keys = {measure: sign * place for place, measure in enumerate(known)}
    keys[None] = -len(cells) if nulls == "first" else len(cells)
    return [keys[measure] for measure in measures]


def _measures(cells):
    """The cells, FRACTIONs among them counted in parts of one common denominator."""
    whole = 1
    for cell in cells:
        if isinstance(cell, tuple):
            whole = lcm(whole, cell[1])
    return [cell[0] * (whole // cell[1]) if isinstance(cell, tuple) else cell for cell in cells]
