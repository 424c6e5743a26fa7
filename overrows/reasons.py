"""Reasons: the rows behind the look of a row in a figure."""

from overrows.frames import frame_places, line_of
from overrows.functions import OFFSETS, RANKS
from overrows.offsets import offset_place
from overrows.parts import partition_of
from overrows.plain import look_entries
from overrows.tables import named_cells
from overrows.values import is_number, tupled


def why(table, figure, number):
    """The REASON of a row of the TABLE among all its rows."""
    return _reason(tupled(table), tupled(figure), number)


def shows_why(table, figure, number, thing):
    """Whether thing is the REASON of a row; False if there is no such row."""
    if number not in [other for other, _ in table[1]] or not _is_reason(thing):
        return False
    return thing == why(table, figure, number)


def look_shown(table, figure, reason):
    """The look that follows from a REASON of some row."""
    _, function, arguments, _, _ = figure
    if function in RANKS:
        return tuple([len(counted) for counted in reason])
    if len(arguments) == 0:
        return tuple([1 for _ in reason[0]])
    return tuple([named_cells(table, number, arguments[:1])[0] for number in reason[0]])


def _is_reason(thing):
    """Whether thing is made as a REASON is; 1 and 0 are equal to True and False, which are no ROW NUMBERs."""
    if not isinstance(thing, tuple) or not all([isinstance(counted, tuple) for counted in thing]):
        return False
    return all([is_number(number) for counted in thing for number in counted])


def _reason(table, figure, number):
    function, window = figure[1], figure[4]
    numbers = partition_of(table, window, number)
    line = line_of(table, window, numbers)
    place = numbers.index(number)
    if function in RANKS:
        return _rank_reason(function, [group for group, _ in line[1]], numbers, place)
    if function in OFFSETS:
        shown = _offset_places(table, figure, numbers, line, place)
    else:
        framed = frame_places(line, place, window[2])
        shown = [other for other in framed if look_entries(table, figure, numbers[other]) != ()]
    return (tuple([numbers[other] for other in shown]),)


def _rank_reason(function, groups, numbers, place):
    """For each count in the look of a rank the tuple of the rows that are counted."""
    before_peers = groups.index(groups[place])
    if function == "row":
        return (numbers[:place],)
    if function == "rank":
        return (numbers[:before_peers],)
    if function == "dense":
        return (tuple([numbers[groups.index(group)] for group in range(groups[place])]),)
    if function == "percent":
        return numbers[:before_peers], numbers
    if function == "share":
        return numbers[:before_peers + groups.count(groups[place])], numbers
    return numbers[:place], numbers


def _offset_places(table, figure, numbers, line, place):
    """The list of the one place whose value an offset shows, empty if there is none."""
    _, function, arguments, _, window = figure
    cells = tuple([named_cells(table, number, arguments[:1])[0] for number in numbers])
    other = offset_place((function, arguments), cells, line, window[2], place)
    return [] if other is None else [other]
