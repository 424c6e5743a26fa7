"""Offsets: the looks of the rows of a partition, each the value of one row or nothing."""

from overrows.frames import frame_places


def offset_looks(call, cells, line, frame):
    """The list of the looks of an offset, place by place."""
    found = [offset_place(call, cells, line, frame, place) for place in range(len(cells))]
    return [() if other is None else (cells[other],) for other in found]


def offset_place(call, cells, line, frame, place):
    """The place of the row whose value an offset shows at a place, None if there is no such row."""
    function, arguments = call
    number = 1 if function in ("first", "last") else arguments[1]
    if number == 0:
        return place
    counted = _places_in_turn(function, line, frame, place)
    if arguments[-1] == "passed":
        counted = [other for other in counted if cells[other] is not None]
    return counted[number - 1] if number <= len(counted) else None


def _places_in_turn(function, line, frame, place):
    """The list of the places among which an offset counts, the one that it reaches first ahead."""
    if function == "earlier":
        return list(range(place - 1, -1, -1))
    if function == "later":
        return list(range(place + 1, len(line[1])))
    found = frame_places(line, place, frame)
    return found[::-1] if function == "last" else found
