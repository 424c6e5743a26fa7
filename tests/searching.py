"""A search through small tables for one in which a filter makes a difference, apart from the program's own cases."""

import itertools

from overrows.functions import RANKS
from overrows.parts import is_window, partitions
from overrows.plain import values_of
from tests.samples import WITHOUTS
from tests.words import holds

NUMBERS = (("c", "number"), ("d", "number"), ("e", "number"), ("a", "number"), ("p", "number"))
TEXTS = (("c", "text"), ("d", "text"), ("e", "number"), ("a", "text"), ("p", "number"))


def is_parted(table, figure, condition):
    """Whether some row that the CONDITION keeps has two different values in the FIGURE."""
    columns, rows = table
    left = (columns, tuple(row for row in rows if holds(columns, condition, row[1]) is True))
    if not left[1] or left == table:
        return False
    among_all = values_of(table, figure, partitions(table, figure[4]))
    among_kept = values_of(left, figure, partitions(left, figure[4]))
    return any(among_all[number] != value for number, value in among_kept.items())


def bound(luck, end):
    word = luck.choice((end, "before", "here", "after", "before", "after"))
    return (word, luck.choice((0, 1, 2, 3))) if word in ("before", "after") else (word,)


def window(luck, columns):
    """A WINDOW in which c may be a part, an order column in any place, or neither."""
    while True:
        parts = luck.choice(((), (), (), ("p",), ("c",), ("d",)))
        order = tuple((luck.choice("ccde"), luck.choice(("up", "down")), luck.choice(("first", "last")))
                      for _ in range(luck.choice((0, 1, 1, 1, 2, 2, 3))))
        frame = (luck.choice(("rows", "range", "groups", "range")), bound(luck, "start"), bound(luck, "end"),
                 luck.choice(WITHOUTS))
        if is_window(columns, (parts, order, frame)):
            return parts, order, frame


def condition(luck, columns):
    """A simple CONDITION on c."""
    null = ("null", ("column", "c"))
    if columns == TEXTS or luck.random() < 0.35:
        return luck.choice((null, ("not", null)))
    return ("compare", ("column", "c"), luck.choice(("=", "<>", "<", "<=", ">", ">=")), ("plain", 1))


def call(luck, columns):
    function = luck.choice(RANKS + ("earlier", "later") + ("first", "last", "nth", "nth") * 3
                           + ("count", "least", "most", "sum" if columns == NUMBERS else "joined"))
    nulls = luck.choice(("counted", "passed"))
    return function, {
        "tile": (luck.choice((1, 2, 3)),),
        "earlier": ("a", luck.choice((0, 1, 2, 3)), None, nulls),
        "later": ("a", luck.choice((0, 1, 2, 3)), None, nulls),
        "first": ("a", nulls),
        "last": ("a", nulls),
        "nth": ("a", luck.choice((1, 1, 2, 2, 3, 4)), nulls),
        "count": luck.choice(((), ("a",))),
    }.get(function, () if function in RANKS else ("a",))


def figure(luck, columns):
    """A FIGURE that is free of c."""
    function, arguments = call(luck, columns)
    return ("f", function, arguments, None, window(luck, columns))


def shown_cells(columns, figure, many):
    """The ways to fill the argument's column of so many rows, different values that can be told apart in any sum."""
    _, function, arguments, _, _ = figure
    if function in RANKS or not arguments:
        return [(None,) * many]
    values = tuple(2 ** place for place in range(many)) if columns == NUMBERS else tuple("abcdefgh"[:many])
    if arguments[-1] == "passed":
        return [tuple(value if there else None for value, there in zip(values, mask))
                for mask in itertools.product((True, False), repeat=many)]
    return [values, values[::-1]]


def row_cells(columns, figure):
    """The cells of c, d and e that matter to a FIGURE and to the CONDITIONs above."""
    named = [item[0] for item in figure[4][1]]
    choices = []
    for name, kind in columns[:3]:
        few = (None, "a", "b") if kind == "text" else (None, 0, 1, 2)
        choices.append(few if name == "c" or (name in named and name not in figure[4][0]) else (None,))
    return list(itertools.product(*choices))


def parted_table(columns, figure, condition, many, luck, most):
    """A TABLE of so many rows that is parted, or None; all of them are tried, or as many as told if these are more."""
    cells, shown = row_cells(columns, figure), shown_cells(columns, figure, many)
    if len(cells) ** many * len(shown) <= most:
        tried = itertools.product(itertools.product(cells, repeat=many), shown)
    else:
        tried = (([luck.choice(cells) for _ in range(many)], luck.choice(shown)) for _ in range(most))
    for placed, values in tried:
        table = (columns, tuple((number, (*one, value, None)) for number,
                                (one, value) in enumerate(zip(placed, values))))
        if is_parted(table, figure, condition):
            return table
    return None
