"""Query texts: queries that are told line by line."""

from overrows.conditions import is_condition, is_keep_condition
from overrows.errors import Fixed, Misfit, NoWindow, Twice
from overrows.functions import OFFSETS, is_sum
from overrows.lines import Reader, line_told
from overrows.orders import is_order
from overrows.parts import is_window
from overrows.plain import is_figure, wide_columns
from overrows.tokens import LETTERS
from overrows.values import tupled
from overrows.writing import PLAIN_FRAME, condition_text, figure_text, order_text, spec_text


def query_in(columns, text):
    """The QUERY for these columns that a text tells."""
    return told_by(columns, _lines_of(text)).query()


def windows_in(columns, text):
    """The list of the pairs (NAME, WINDOW) of the window lines of a text."""
    told = told_by(columns, _lines_of(text))
    return list(told.windows.items())


def same_query(columns, one, other):
    """Whether two texts tell equal QUERYs."""
    query = query_in(columns, one)
    return query == query_in(columns, other)


def query_text(query):
    """The text of a QUERY, without window lines."""
    asked = tupled(query)
    figures = [figure_text(figure, f"({spec_text(figure[4], None, ())})") for figure in asked[1]]
    return _text_of(asked, figures)


def named_text(query):
    """The text of a QUERY, with a window line for each different WINDOW."""
    asked = tupled(query)
    names = {}
    lines = []
    for figure in asked[1]:
        window = figure[4]
        if window not in names:
            base, base_order = _base_among(names, window)
            names[window] = "w" + _letters(len(names))
            lines.append(_window_text(names[window], spec_text(window, base, base_order)))
    lines.extend([figure_text(figure, names[figure[4]]) for figure in asked[1]])
    return _text_of(asked, lines)


def told_by(columns, lines):
    """What lines tell of columns, given as pairs (number, what the line says)."""
    told = Told(columns)
    for number, said in lines:
        told.take(number, said)
    told.check_end()
    return told


class Told:
    """What the lines of a query text have told so far."""

    def __init__(self, columns):
        self.columns = tupled(columns)
        self.clauses = {"where": None, "keep": None, "order": ()}
        # The number of the line of each clause that has come.
        self.numbers = {}
        self.windows = {}
        self.framed = {}
        self.asked = []

    def take(self, number, said):
        """Take in what the line of this number says."""
        if said[0] == "window":
            self._take_window(number, said)
        elif said[0] == "figure":
            self._take_figure(number, said)
        else:
            self._take_clause(number, said)

    def check_end(self):
        """Make sure that keep and order fit the columns and all figures."""
        wide = wide_columns(self.columns, self.asked)
        keep = self.clauses["keep"]
        if keep is not None and not is_keep_condition(wide, keep):
            raise Misfit(self.numbers["keep"])
        if not is_order(wide, self.clauses["order"]):
            raise Misfit(self.numbers["order"])

    def query(self):
        """The QUERY that has been told."""
        return self.clauses["where"], tuple(self.asked), self.clauses["keep"], self.clauses["order"]

    def _take_clause(self, number, said):
        word, clause = said
        if word in self.numbers:
            raise Twice(word)
        if word == "where" and not is_condition(self.columns, clause):
            raise Misfit(number)
        self.numbers[word] = number
        self.clauses[word] = clause

    def _take_window(self, number, said):
        _, name, spec = said
        if name in self.windows:
            raise Twice(name)
        window = self._window_of(spec)
        if not is_window(self.columns, window):
            raise Misfit(number)
        self.windows[name] = window
        self.framed[name] = spec[3] is not None

    def _take_figure(self, number, said):
        _, name, function, args, condition, spec, window_name = said
        if name in [other for other, _ in self.columns] or name in [earlier[0] for earlier in self.asked]:
            raise Twice(name)
        window = self._window_named(window_name) if spec is None else self._window_of(spec)
        figure = (name, function, _arguments_told(function, args), condition, window)
        if not is_figure(self.columns, figure):
            raise Misfit(number)
        self.asked.append(figure)

    def _window_named(self, name):
        if name not in self.windows:
            raise NoWindow(name)
        return self.windows[name]

    def _window_of(self, spec):
        """The WINDOW of a SPEC, which may be built on an earlier window."""
        base, parts, order, frame = spec
        base_parts, base_order = (), ()
        if base is not None:
            base_parts, base_order, _ = self._window_named(base)
            if parts is not None or (order is not None and len(base_order) > 0) or self.framed[base]:
                raise Fixed(base)
        return (
            base_parts if parts is None else parts,
            base_order if order is None else order,
            PLAIN_FRAME if frame is None else frame,
        )


def _lines_of(text):
    """The list of the pairs (number, what the line says) of all lines with tokens."""
    found = []
    for number, line in enumerate(text.split("\n")):
        reader = Reader(line, number)
        if not reader.is_through():
            found.append((number, line_told(reader)))
    return found


def _arguments_told(function, args):
    """The arguments of a CALL, given the ARGs; None if these tell none."""
    kinds = [kind for kind, _ in args]
    values = tuple([value for _, value in args])
    if is_sum(function):
        return values if kinds in ([], ["column"], ["column", "word"]) else None
    if function not in OFFSETS:
        # Of these only a rank takes arguments, and none that a NAME or a word could be taken for.
        return values
    nulls = "counted"
    if args[-1:] == (("word", "passed"),):
        nulls, kinds, values = "passed", kinds[:-1], values[:-1]
    if function in ("earlier", "later") and len(values) == 2:
        kinds, values = kinds + ["plain"], (*values, None)
    return (*values, nulls) if kinds == ["column"] + ["plain"] * (len(kinds) - 1) else None


def _base_among(names, window):
    """The pair of the NAME and the order of the first window that a SPEC can be built on, or of None and ()."""
    parts, order, _ = window
    for other, name in names.items():
        has_something = len(other[0]) > 0 or len(other[1]) > 0
        if has_something and other[2] == PLAIN_FRAME and other[0] == parts and other[1] in (order, ()):
            return name, other[1]
    return None, ()


def _window_text(name, spec):
    return f"window {name} = {spec}" if spec != "" else f"window {name} ="


def _letters(number):
    """The letters that stand for a number from 0, a for 0."""
    if number < len(LETTERS):
        return LETTERS[number]
    before, last = divmod(number, len(LETTERS))
    return _letters(before) + LETTERS[last]


def _text_of(query, lines):
    """The text of a QUERY whose figures these lines tell."""
    where, _, keep, order = query
    found = [] if where is None else ["where " + condition_text(where)]
    found.extend(lines)
    if keep is not None:
        found.append("keep " + condition_text(keep))
    if len(order) > 0:
        found.append("order " + order_text(order))
    return "\n".join(found)
