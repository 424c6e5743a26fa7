"""Parting tables: smallest tables in which a filter ahead of a figure makes a difference.

A shape tells the rows of one partition around a kept row that is looked at: a pair of tuples of marks, those ahead of
this row and those behind it. A mark is a pair: the place of a row in the order (below 0 before the row that is looked
at, 0 beside it, above 0 behind it), and whether the row is kept.
"""

from overrows.conditions import kept, truth
from overrows.functions import RANKS
from overrows.needs import short_order
from overrows.parts import partitions
from overrows.passing import asked_column, beyond, check_asked, lets_pass, reach
from overrows.plain import values_of
from overrows.tables import is_table, kind_among
from overrows.values import tupled

OWN = (0, True)
MIDDLE = 500000


def parting(columns, figures, condition):
    """None if the CONDITION may pass, otherwise a parting TABLE with the fewest rows."""
    check_asked(columns, figures, condition)
    asked, filtered = tupled(figures), tupled(condition)
    stopping = [figure for figure in asked if not lets_pass(figure, filtered)]
    found = [_least_parting(tupled(columns), figure, filtered) for figure in stopping]
    return min(found, key=_rows_of) if found else None


def shows_parting(columns, figures, condition, thing):
    """Whether thing is a parting TABLE with these columns."""
    check_asked(columns, figures, condition)
    if not is_table(thing) or thing[0] != tupled(columns):
        return False
    return any([_is_parted(thing, figure, tupled(condition)) for figure in tupled(figures)])


def _rows_of(table):
    return len(table[1])


def _is_parted(table, figure, condition):
    """Whether some kept row has two different values in the FIGURE."""
    left = kept(table, condition)
    among_all = values_of(table, figure, partitions(table, figure[4]))
    among_kept = values_of(left, figure, partitions(left, figure[4]))
    return any([among_all[number] != value for number, value in among_kept.items()])


def _least_parting(columns, figure, condition):
    """The parting TABLE of the first shape that makes one, the smaller shapes first; None if no shape does."""
    for shape in sorted(_shapes(figure), key=_marks_of):
        for table in _tables(columns, figure, condition, shape):
            if _is_parted(table, figure, condition):
                return table
    return None


def _marks_of(shape):
    return len(shape[0]) + len(shape[1])


def _lost(many, place):
    return ((place, False),) * many


def _kept(many, place):
    return ((place, True),) * many


def _shapes(figure):
    """The list of the shapes, among which are the smallest that can part the values of a FIGURE."""
    _, function, arguments, _, _ = figure
    if function in RANKS:
        few = [(_lost(1, -1), ()), (_lost(1, 0), ()), ((), _lost(1, 1))]
        few += [(_kept(1, -1), _lost(1, 1)), (_lost(1, -1), _kept(1, 1))]
        return few + [(_kept(1, 0), _lost(arguments[0] - 1, 1))] if function == "tile" else few
    if function == "earlier":
        return [(_lost(arguments[1], -1), ()), (_lost(arguments[1], 0), ())]
    if function == "later":
        return [((), _lost(arguments[1], 0)), ((), _lost(arguments[1], 1))]
    frame = figure[4][2]
    # The row that is looked at may be one of those that "nth" asks for.
    many = [max(arguments[1] - 1, 1), arguments[1]] if function == "nth" else [1]
    found = []
    for rows in many:
        found += _shapes_on_one_side(frame, rows) + _shapes_on_both_sides(frame, rows)
    return found


def _shapes_on_one_side(frame, many):
    """The shapes in which the nearest place of the frame has so many lost rows, on one side of the row."""
    low, high = reach(frame, beyond(frame))
    ahead, behind = max(1, -high), max(1, low)
    found = []
    for keep in (False, True):
        between = _between(frame, ahead, keep)
        found.append((_lost(many, -ahead) + between, ()))
        found.append((_lost(many + len(between), 0), ()))
        between = _between(frame, behind, keep)
        found.append(((), _turned_marks(between) + _lost(many, behind)))
        found.append(((), _lost(many + len(between), 0)))
    return found


def _between(frame, distance, keep):
    """The marks of the rows between the row and one ahead, whose distance is counted in rows or groups."""
    if frame[0] == "range":
        return ()
    return tuple([(-place, keep) for place in range(distance - 1, 0, -1)])


def _turned_marks(marks):
    return tuple([(-place, keep) for place, keep in marks[::-1]])


def _shapes_on_both_sides(frame, many):
    """The shapes in which a frame around the row has so many rows, lost ones on one side as far as it reaches."""
    low, high = reach(frame, beyond(frame) + many)
    if frame[0] != "rows" or low > 0 or high < 0:
        return []
    ahead, behind = min(many, -low), min(many, high)
    found = []
    for place, keep in ((1, False), (1, True), (0, False), (0, True)):
        for lost_place in (0, 1):
            found.append((_lost(ahead, -lost_place), ((place, keep),) * (many - ahead)))
            found.append((((-place, keep),) * (many - behind), _lost(behind, lost_place)))
    return found


def _tables(columns, figure, condition, shape):
    """The list of the TABLEs of a shape: all ways to choose the cells that may make a difference."""
    _, function, arguments, _, window = figure
    marks = [*shape[0], OWN, *shape[1]]
    placed = _placed_cells(columns, window, condition, marks)
    if function in RANKS or len(arguments) == 0:
        return [_table_of(columns, rows) for rows in placed]
    name = arguments[0]
    other = _shown_cell(kind_among(columns, name), arguments)
    found = []
    for own in (None, other):
        shown = [own if place == len(shape[0]) else other for place in range(len(marks))]
        for rows in placed:
            found.append(_table_of(columns, [{**cells, name: cell} for cells, cell in zip(rows, shown)]))
    return found


def _table_of(columns, rows):
    """The TABLE of rows that are told by the cells that matter, by the names of the columns."""
    names = [name for name, _ in columns]
    return columns, tuple([
        (number, tuple([cells.get(name) for name in names])) for number, cells in enumerate(rows)
    ])


def _shown_cell(kind, arguments):
    """A cell that is another one than the default in these arguments."""
    one, another = (1, 2) if kind == "number" else ("a", "b")
    return another if one in arguments[2:3] else one


def _placed_cells(columns, window, condition, marks):
    """A list of ways to place the marks, each a list of dicts: the cells of the condition's and the order's columns."""
    column = asked_column(condition)
    short = short_order(window)
    if len(short) > 0 and short[0][0] == column:
        return _placed_along_asked(columns, short, condition, marks)
    keeping, losing = _keeping_and_losing(kind_among(columns, column), condition)
    placed = [{column: keeping if keep else losing} for _, keep in marks]
    if len(short) == 0:
        return [placed]
    along = [{**cells, **_cell_along(columns, short[0], place)} for cells, (place, _) in zip(placed, marks)]
    # A row without a value is near by every range with a number, and a bound with a number ends at its PEERs.
    without = [{**cells, short[0][0]: None} if place == 0 else cells for cells, (place, _) in zip(along, marks)]
    return [along, without]


def _keeping_and_losing(kind, condition):
    """The pair of a cell that the CONDITION keeps and one that it does not keep."""
    if condition[0] == "null":
        return None, _cell_at(kind, "up", 0)
    if condition[0] == "not":
        return _cell_at(kind, "up", 0), None
    _, _, sign, (_, number) = condition
    if sign in ("=", "<=", ">="):
        return number, None
    return (number - 1 if sign == "<" else number + 1), None


def _placed_along_asked(columns, short, condition, marks):
    """The ways to place the marks in an order that begins with the column of the CONDITION."""
    name, way, _ = short[0]
    kind = kind_among(columns, name)
    found = []
    for own in _own_cells(kind, way, condition, marks):
        for lost_has_cell in (True, False):
            placed = []
            for place, keep in marks:
                cell = _cell_beside(kind, way, own, place) if keep or lost_has_cell else None
                if keep and len(short) > 1:
                    placed.append({**_cell_along(columns, short[1], place), name: own})
                else:
                    placed.append({name: cell})
            if _are_kept_as_marked(kind, condition, marks, [cells[name] for cells in placed]):
                found.append(placed)
    return found


def _own_cells(kind, way, condition, marks):
    """The cells that the row that is looked at may have, such that others around it are kept or lost as marked."""
    if condition[0] == "null":
        return [None]
    if condition[0] == "not":
        return [_cell_at(kind, way, 0)]
    number = condition[3][1]
    from_lost = [_cell_beside(kind, way, number, -place) for place, keep in marks if not keep]
    return sorted(set([number - 1, number, number + 1] + from_lost))


def _are_kept_as_marked(kind, condition, marks, cells):
    columns = ((asked_column(condition), kind),)
    return all([(truth(columns, condition, (cell,)) is True) == keep for cell, (_, keep) in zip(cells, marks)])


def _cell_beside(kind, way, own, place):
    """The cell of a row that stands so many places behind a row with its own cell, or ahead of it."""
    if place == 0:
        return own
    if kind == "text" or own is None:
        return _cell_at(kind, way, place)
    return own + place if way == "up" else own - place


def _cell_along(columns, item, place):
    """The dict of the cell that puts a row at this place by one item of an ORDER."""
    return {item[0]: _cell_at(kind_among(columns, item[0]), item[1], place)}


def _cell_at(kind, way, place):
    number = place if way == "up" else -place
    # Texts with as many digits compare as their numbers do.
    return number if kind == "number" else str(MIDDLE + number)
