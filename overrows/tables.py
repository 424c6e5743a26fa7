"""Tables: what they are, their columns and cells, and the tables that edits make of them."""

from overrows.errors import BadCells, NoColumn, NoRow, Taken
from overrows.values import is_cell, is_name, is_number_from, is_tuple_of, tupled


def is_table(thing):
    """Whether thing is a TABLE."""
    if not is_tuple_of(2, thing):
        return False
    columns, rows = thing
    return _are_columns(columns) and _are_rows(columns, rows)


def column_of(table, name):
    """The index of the column with this name."""
    for index, (other, _) in enumerate(table[0]):
        if other == name:
            return index
    raise NoColumn(name)


def cells_of(table, number):
    """The cells of the row with this number."""
    for other, cells in table[1]:
        if other == number:
            return tuple(cells)
    raise NoRow(number)


def added(table, number, cells):
    """The TABLE with one more row."""
    columns, rows = tupled(table)
    if number in [row[0] for row in rows]:
        raise Taken(number)
    _check_cells(columns, cells)
    ahead = [row for row in rows if row[0] < number]
    behind = [row for row in rows if row[0] > number]
    return columns, (*ahead, (number, tuple(cells)), *behind)


def changed(table, number, cells):
    """The TABLE with other cells in the row with this number."""
    return added(deleted(table, number), number, cells)


def deleted(table, number):
    """The TABLE without the row with this number."""
    columns, rows = tupled(table)
    left = tuple([row for row in rows if row[0] != number])
    if len(left) == len(rows):
        raise NoRow(number)
    return columns, left


def kind_among(columns, name):
    """The kind of the column with this name, None if there is no such column."""
    for other, kind in columns:
        if other == name:
            return kind
    return None


def named_cells(table, number, names):
    """The tuple of the cells that a row has in the columns with these names."""
    cells = cells_of(table, number)
    return tuple([cells[column_of(table, name)] for name in names])


def _are_columns(thing):
    if not isinstance(thing, tuple) or len(thing) == 0:
        return False
    if not all([_is_column(column) for column in thing]):
        return False
    return len({name for name, _ in thing}) == len(thing)


def _is_column(thing):
    return is_tuple_of(2, thing) and is_name(thing[0]) and thing[1] in ("number", "text")


def _are_rows(columns, thing):
    if not isinstance(thing, tuple):
        return False
    if not all([_is_row(columns, row) for row in thing]):
        return False
    return all([row[0] < later[0] for row, later in zip(thing, thing[1:])])


def _is_row(columns, thing):
    if not is_tuple_of(2, thing):
        return False
    number, cells = thing
    return is_number_from(0, number) and isinstance(cells, tuple) and _cells_fit(columns, cells)


def _cells_fit(columns, cells):
    if len(cells) != len(columns):
        return False
    return all([is_cell(kind, cell) for (_, kind), cell in zip(columns, cells)])


def _check_cells(columns, cells):
    if not _cells_fit(columns, cells):
        raise BadCells(tuple(cells))
