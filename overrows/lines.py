"""Lines of query texts: what each of them says, before it is asked whether that fits any columns.

A line says ("where", CONDITION), ("keep", CONDITION), ("order", ORDER), ("window", NAME, SPEC) or
("figure", NAME, function, ARGs, CONDITION or None, SPEC or None, NAME or None): one of the last two is None.
A SPEC is (NAME, parts, order, FRAME), each None if it is left out. An ARG is an ITEM, ("word", "unlike") or
("word", "passed").
"""

from overrows.conditions import SIGNS
from overrows.errors import BadLine
from overrows.tokens import FIXED_WORDS, tokens_of

STRENGTHS = {"or": 1, "and": 2, "not": 3}


class Reader:
    """The tokens of the line of a number, read one after the other."""

    def __init__(self, line, number):
        self.number = number
        self.tokens = tokens_of(line, number)
        self.place = 0

    def is_through(self):
        """Whether all tokens have been read."""
        return self.place == len(self.tokens)

    def seen(self):
        """The next token, which is not read by this."""
        return ("end", None) if self.is_through() else self.tokens[self.place]

    def token(self):
        """The next token."""
        found = self.seen()
        self.place += 1
        return found

    def takes(self, kind, value):
        """Whether this is the next token; if so, it is read."""
        is_next = self.seen() == (kind, value)
        self.place += 1 if is_next else 0
        return is_next

    def expect(self, kind, value):
        """Read this token, which must be the next one."""
        if not self.takes(kind, value):
            raise BadLine(self.number)

    def takes_one_of(self, words):
        """The one of these words that is the next token and is read; None if none is."""
        for word in words:
            if self.takes("word", word):
                return word
        return None

    def expect_one_of(self, words):
        """The one of these words that must be the next token."""
        found = self.takes_one_of(words)
        if found is None:
            raise BadLine(self.number)
        return found

    def is_at_name(self):
        """Whether the next token is a NAME."""
        kind, value = self.seen()
        return kind == "name" or (kind == "word" and len(value) <= 8 and value not in FIXED_WORDS)

    def name_told(self):
        """The NAME that must be the next token."""
        if not self.is_at_name():
            raise BadLine(self.number)
        return self.token()[1]

    def value_of(self, kinds):
        """The value of the next token, which must be of one of these kinds."""
        kind, value = self.token()
        if kind not in kinds:
            raise BadLine(self.number)
        return value

    def close(self):
        """Make sure that nothing stands behind."""
        if not self.is_through():
            raise BadLine(self.number)


class Conditions:
    """A CONDITION that is put together from left to right."""

    def __init__(self):
        self.done = []
        # Words and brackets that wait for a part behind them.
        self.waiting = []

    def wait(self, word):
        """Let a word or an open bracket wait for what comes behind it."""
        self.waiting.append(word)

    def bind(self, least):
        """Put together all that binds as strongly as this, back to the last open bracket."""
        while self.waiting and self.waiting[-1] != "(" and STRENGTHS[self.waiting[-1]] >= least:
            word = self.waiting.pop()
            last = self.done.pop()
            self.done.append((word, last) if word == "not" else (word, self.done.pop(), last))

    def closes(self):
        """Whether a bracket was open; if so, it is closed."""
        self.bind(0)
        is_open = len(self.waiting) > 0
        if is_open:
            self.waiting.pop()
        return is_open


def line_told(reader):
    """What a line of a query text says."""
    word = reader.expect_one_of(("where", "keep", "order", "window", "figure"))
    if word in ("where", "keep"):
        said = (word, _condition(reader))
    elif word == "order":
        said = (word, _many(reader, _key))
    elif word == "window":
        name = _name(reader)
        reader.expect("sign", "=")
        said = (word, name, _spec(reader))
    else:
        said = _figure(reader)
    reader.close()
    return said


def values_told(reader):
    """The tuple of the VALUEs, one or more, with commas between."""
    return _many(reader, _value)


def number_told(reader):
    """The number without a sign that must be next."""
    number = reader.value_of(("number",))
    if number < 0:
        raise BadLine(reader.number)
    return number


def _many(reader, read):
    """The tuple of what is read, once or more often, with commas between."""
    found = [read(reader)]
    while reader.takes("sign", ","):
        found.append(read(reader))
    return tuple(found)


def _name(reader):
    return reader.name_told()


def _value(reader):
    return None if reader.takes("word", "null") else reader.value_of(("number", "text"))


def _key(reader):
    name = reader.name_told()
    way = reader.takes_one_of(("up", "down")) or "up"
    nulls = reader.takes_one_of(("first", "last"))
    if nulls is None:
        nulls = "last" if way == "up" else "first"
    return name, way, nulls


def _spec(reader):
    base = reader.name_told() if reader.is_at_name() else None
    parts = _many(reader, _name) if reader.takes("word", "by") else None
    order = _many(reader, _key) if reader.takes("word", "order") else None
    unit = reader.takes_one_of(("rows", "range", "groups"))
    return base, parts, order, None if unit is None else _frame(reader, unit)


def _frame(reader, unit):
    low = _bound(reader)
    high = _bound(reader) if reader.takes("word", "to") else ("here",)
    if not reader.takes("word", "without"):
        return unit, low, high, "nobody"
    return unit, low, high, reader.expect_one_of(("row", "group", "ties"))


def _bound(reader):
    word = reader.takes_one_of(("start", "here", "end"))
    if word is not None:
        return (word,)
    number = number_told(reader)
    return reader.expect_one_of(("before", "after")), number


def _figure(reader):
    name = reader.name_told()
    reader.expect("sign", "=")
    function = reader.value_of(("word",))
    reader.expect("sign", "(")
    args = ()
    if not reader.takes("sign", ")"):
        args = _many(reader, _arg)
        reader.expect("sign", ")")
    condition = _condition(reader) if reader.takes("word", "if") else None
    reader.expect("word", "over")
    if not reader.takes("sign", "("):
        return "figure", name, function, args, condition, None, reader.name_told()
    spec = _spec(reader)
    reader.expect("sign", ")")
    return "figure", name, function, args, condition, spec, None


def _arg(reader):
    word = reader.takes_one_of(("unlike", "passed"))
    return _item(reader) if word is None else ("word", word)


def _item(reader):
    if reader.takes("word", "null"):
        return ("plain", None)
    if reader.is_at_name():
        return ("column", reader.name_told())
    return ("plain", reader.value_of(("number", "fraction", "text")))


def _condition(reader):
    """A CONDITION, read without going deeper for each bracket, because there may be very many of them."""
    found = Conditions()
    while True:
        if reader.takes("word", "not"):
            found.wait("not")
            continue
        if reader.takes("sign", "("):
            found.wait("(")
            continue
        found.done.append(_comparison(reader))
        while "(" in found.waiting and reader.takes("sign", ")"):
            found.closes()
        word = reader.takes_one_of(("and", "or"))
        if word is None:
            break
        found.bind(STRENGTHS[word])
        found.wait(word)
    if found.closes():
        raise BadLine(reader.number)
    return found.done[0]


def _comparison(reader):
    item = _item(reader)
    if reader.takes("word", "is"):
        is_not = reader.takes("word", "not")
        reader.expect("word", "null")
        return ("not", ("null", item)) if is_not else ("null", item)
    if reader.takes("word", "between"):
        low = _item(reader)
        reader.expect("word", "and")
        return ("and", ("compare", item, ">=", low), ("compare", item, "<=", _item(reader)))
    if reader.takes("word", "in"):
        return _one_of(reader, item)
    sign = reader.value_of(("sign",))
    if sign not in SIGNS:
        raise BadLine(reader.number)
    return ("compare", item, sign, _item(reader))


def _one_of(reader, item):
    reader.expect("sign", "(")
    found = None
    for other in _many(reader, _item):
        equal = ("compare", item, "=", other)
        found = equal if found is None else ("or", found, equal)
    reader.expect("sign", ")")
    return found
