"""Tables, figures and queries for the tests, made by a seeded generator, so that every run makes the same ones."""

from overrows.functions import is_call, kind_of
from tests.samples import WITHOUTS

COLUMNS = (("k", "text"), ("a", "number"), ("b", "number"))
RANKS = ("row", "rank", "dense", "percent", "share")
SUMS = ("count", "sum", "mean", "least", "most", "joined")


def cell(luck, kind):
    """A cell, often one that comes again."""
    if luck.random() < 0.2:
        return None
    return luck.choice(("", "x", "y")) if kind == "text" else luck.choice((-1, 0, 1, 2, 5))


def cells(luck, columns=COLUMNS):
    return tuple(cell(luck, kind) for _, kind in columns)


def table(luck, many, columns=COLUMNS):
    """A TABLE with so many rows."""
    numbers = sorted(luck.sample(range(3 * many + 1), many))
    return columns, tuple((number, cells(luck, columns)) for number in numbers)


def plain(luck, kind, fractions):
    if fractions and kind == "number" and luck.random() < 0.4:
        return ("plain", luck.choice(((1, 2), (2, 1), (0, 1), (-1, 3), (3, 4))))
    return ("plain", cell(luck, kind))


def condition(luck, columns=COLUMNS, depth=2, fractions=False):
    """A CONDITION for these columns, nested so deep."""
    if depth > 0 and luck.random() < 0.5:
        word = luck.choice(("not", "and", "or"))
        return (word, *[condition(luck, columns, depth - 1, fractions) for _ in range(1 if word == "not" else 2)])
    name, kind = luck.choice(columns)
    if luck.random() < 0.25:
        return ("null", ("column", name))
    others = [("column", other) for other, other_kind in columns if other_kind == kind]
    other = luck.choice(others) if luck.random() < 0.3 else plain(luck, kind, fractions)
    return ("compare", ("column", name), luck.choice(("=", "<>", "<", "<=", ">", ">=")), other)


def order(luck, columns=COLUMNS, longest=2):
    return tuple(
        (luck.choice(columns)[0], luck.choice(("up", "down")), luck.choice(("first", "last")))
        for _ in range(luck.randrange(longest + 1)))


def bound(luck, end):
    word = luck.choice((end, "before", "here", "after"))
    return (word, luck.choice((0, 1, 2, 3))) if word in ("before", "after") else (word,)


def window(luck, columns=COLUMNS):
    """A WINDOW of these columns."""
    names = [name for name, _ in columns]
    parts = tuple(luck.sample(names, luck.choice((0, 0, 1, 1, 2))))
    chosen = order(luck, columns)
    unit, low, high = luck.choice(("rows", "range", "groups")), bound(luck, "start"), bound(luck, "end")
    numbers = len(chosen) == 1 and dict(columns)[chosen[0][0]] == "number"
    if unit == "range" and not numbers and (len(low) == 2 or len(high) == 2):
        unit = "groups"
    return parts, chosen, (unit, low, high, luck.choice(WITHOUTS))


def call(luck, columns=COLUMNS):
    """A CALL for these columns."""
    while True:
        function = luck.choice(RANKS + ("tile", "earlier", "later", "first", "last", "nth") + SUMS)
        name, kind = luck.choice(columns)
        nulls = luck.choice(("counted", "passed"))
        arguments = {
            "tile": (luck.randrange(1, 5),),
            "earlier": (name, luck.randrange(4), cell(luck, kind), nulls),
            "later": (name, luck.randrange(4), cell(luck, kind), nulls),
            "first": (name, nulls),
            "last": (name, nulls),
            "nth": (name, luck.randrange(1, 4), nulls),
        }.get(function, ())
        if function in SUMS:
            arguments = luck.choice(((), (name,), (name, "unlike")))
        if is_call(columns, (function, arguments)):
            return function, arguments


def figure(luck, columns=COLUMNS, name="f"):
    """A FIGURE for these columns."""
    function, arguments = call(luck, columns)
    asked = condition(luck, columns) if function in SUMS and luck.random() < 0.4 else None
    return (name, function, arguments, asked, window(luck, columns))


def figures(luck, many, columns=COLUMNS):
    """A tuple of so many FIGUREs with different names."""
    return tuple(figure(luck, columns, "fig" + "abcdefgh"[number]) for number in range(many))


def query(luck, many, columns=COLUMNS):
    """A QUERY with so many FIGUREs."""
    asked = figures(luck, many, columns)
    wide = columns + tuple((one[0], kind_of(columns, one[1:3])) for one in asked)
    where = condition(luck, columns) if luck.random() < 0.5 else None
    keep = condition(luck, wide, fractions=True) if luck.random() < 0.6 else None
    return where, asked, keep, order(luck, wide, 3)
