"""Functions: what a figure may call, and the value that follows from a look."""

from overrows.tables import kind_among
from overrows.values import fraction, is_cell, is_number_from, is_tuple_of

RANKS = ("row", "rank", "dense", "percent", "share", "tile")
OFFSETS = ("earlier", "later", "first", "last", "nth")
SUM_KINDS = {
    "count": ("number", "text"),
    "sum": ("number",),
    "mean": ("number",),
    "least": ("number", "text"),
    "most": ("number", "text"),
    "joined": ("text",),
}
UNLIKE_SUMS = ("count", "sum", "mean", "joined")


def is_call(columns, thing):
    """Whether thing is a CALL for these columns."""
    if not is_tuple_of(2, thing):
        return False
    function, arguments = thing
    if not isinstance(function, str) or not isinstance(arguments, tuple):
        return False
    if function in RANKS:
        return _fit_rank(function, arguments)
    if function in OFFSETS:
        return _fit_offset(columns, function, arguments)
    return is_sum(function) and _fit_sum(columns, function, arguments)


def kind_of(columns, call):
    """The kind of the values of a CALL."""
    function, arguments = call
    if function == "joined":
        return "text"
    if function in OFFSETS or function in ("least", "most"):
        return kind_among(columns, arguments[0])
    return "number"


def reads_frame(function):
    """Whether the function reads the frame."""
    return is_sum(function) or function in ("first", "last", "nth")


def is_sum(function):
    """Whether the function is a sum."""
    return function in SUM_KINDS


def call_value(call, look):
    """The value that a CALL has for a look."""
    function, arguments = call
    if function in RANKS:
        return _rank_value(function, arguments, look)
    if function in OFFSETS:
        return _offset_value(function, arguments, look)
    return sum_value(function, _counted(arguments, look))


def sum_value(function, taken):
    """The value of a sum of these entries, unlike ones only if it asks for such."""
    if function == "count":
        return len(taken)
    if len(taken) == 0:
        return None
    if function == "joined":
        return ",".join(taken)
    if function == "least":
        return min(taken)
    if function == "most":
        return max(taken)
    return sum(taken) if function == "sum" else fraction(sum(taken), len(taken))


def _fit_rank(function, arguments):
    if function == "tile":
        return len(arguments) == 1 and is_number_from(1, arguments[0])
    return arguments == ()


def _fit_offset(columns, function, arguments):
    if len(arguments) < 2 or arguments[-1] not in ("counted", "passed"):
        return False
    kind = kind_among(columns, arguments[0])
    between = arguments[1:-1]
    if kind is None:
        return False
    if function == "nth":
        return len(between) == 1 and is_number_from(1, between[0])
    if function in ("earlier", "later"):
        return len(between) == 2 and is_number_from(0, between[0]) and is_cell(kind, between[1])
    return between == ()


def _fit_sum(columns, function, arguments):
    if arguments == ():
        return function == "count"
    if arguments[1:] != () and (arguments[1:] != ("unlike",) or function not in UNLIKE_SUMS):
        return False
    return kind_among(columns, arguments[0]) in SUM_KINDS[function]


def _rank_value(function, arguments, look):
    if function == "percent":
        return fraction(look[0], look[1] - 1) if look[1] > 1 else (0, 1)
    if function == "share":
        return fraction(look[0], look[1])
    if function == "tile":
        return _tile(arguments[0], look[0], look[1])
    return look[0] + 1


def _tile(tiles, ahead, rows):
    """The tile of the row that has so many rows ahead of it."""
    least, longer_tiles = divmod(rows, tiles)
    in_longer_tiles = longer_tiles * (least + 1)
    if ahead < in_longer_tiles:
        return ahead // (least + 1) + 1
    return longer_tiles + (ahead - in_longer_tiles) // least + 1


def _offset_value(function, arguments, look):
    if len(look) > 0:
        return look[0]
    return arguments[2] if function in ("earlier", "later") else None


def _counted(arguments, look):
    """The list of the entries of a look that a sum takes, each value once if it asks for unlike ones."""
    if len(arguments) < 2:
        return list(look)
    # A dict keeps the order in which its keys come first.
    return list({value: True for value in look})
