"""Boards: tables that are edited while the figures of a query are kept up to date."""

from overrows.conditions import kept
from overrows.errors import NoOperation
from overrows.functions import call_value
from overrows.plain import answer_with, side_by_side
from overrows.tables import added, changed, deleted
from overrows.touched import looks_of, touches_between
from overrows.values import tupled


class Board:
    """A TABLE, a QUERY for its columns, and the values of all figures."""

    def __init__(self, table, query):
        self._query = tupled(query)
        first = State(tupled(table), self._query)
        first.take_values({}, list(first.looks))
        # The state at the beginning, and one more behind each operation in effect.
        self._states = [first]
        self._computed = len(first.looks)
        self._entries = []

    def do(self, edits):
        """Do EDITs, one after the other, as one operation; return the TOUCHes."""
        self._entries.append(("in", "do"))
        try:
            return self._do_all(edits)
        finally:
            self._entries.append(("out", "do"))

    def add(self, number, cells):
        """Add a row; return the TOUCHes."""
        self._entries.append(("in", "add"))
        try:
            return self._do_all([("add", number, cells)])
        finally:
            self._entries.append(("out", "add"))

    def change(self, number, cells):
        """Give a row other cells; return the TOUCHes."""
        self._entries.append(("in", "change"))
        try:
            return self._do_all([("change", number, cells)])
        finally:
            self._entries.append(("out", "change"))

    def delete(self, number):
        """Delete a row; return the TOUCHes."""
        self._entries.append(("in", "delete"))
        try:
            return self._do_all([("delete", number)])
        finally:
            self._entries.append(("out", "delete"))

    def undo(self):
        """Take back the last operation in effect; return whether there was one."""
        self._entries.append(("in", "undo"))
        is_there = self.operations() > 0
        if is_there:
            self._states = self._states[:-1]
        self._entries.append(("out", "undo"))
        return is_there

    def table(self):
        """The TABLE as it is now."""
        return self._states[-1].table_then

    def figures(self):
        """The list of pairs (ROW NUMBER, values) of the rows that where keeps."""
        values = self._states[-1].values_by_key
        rows = kept(self.table(), self._query[0])
        numbers = [number for number, _ in rows[1]]
        names = [figure[0] for figure in self._query[1]]
        return side_by_side(rows, [{number: values[number, name] for number in numbers} for name in names])

    def answer(self):
        """The list of triples (ROW NUMBER, cells, values) of the answer."""
        return answer_with(self.table(), self._query, self.figures())

    def computed(self):
        """How many figures have been computed so far."""
        return self._computed

    def operations(self):
        """How many operations are in effect."""
        return len(self._states) - 1

    def as_of(self, many):
        """A new Board in the state after the first of these operations, as many as told."""
        if not 0 <= many <= self.operations():
            raise NoOperation(many)
        earlier = Board(self._states[many].table_then, self._query)
        earlier._states = self._states[:many + 1]
        return earlier

    def twin(self):
        """A new Board in the state after all operations."""
        return self.as_of(self.operations())

    def log(self):
        """The list of the pairs that tell of all calls of operations."""
        return list(self._entries)

    def __eq__(self, other):
        return isinstance(other, Board) and self.table() == other.table() and self._query == other._query

    def __len__(self):
        return len(self.table()[1])

    def __repr__(self):
        return f"Board({len(self.table()[1])} rows, {len(self._query[1])} figures)"

    def _do_all(self, edits):
        early = self._states[-1]
        table = early.table_then
        for edit in edits:
            table = _edited(table, edit)
        late = State(table, self._query)
        touches = touches_between(early.looks, late.looks)
        keys = [(number, name) for number, name, reason in touches if reason != "gone"]
        late.take_values(early.values_by_key, keys)
        self._states = self._states + [late]
        self._computed += len(keys)
        return touches


class State:
    """A TABLE with the looks of its rows and the values of all figures, both by pairs (ROW NUMBER, name)."""

    def __init__(self, table, query):
        self.table_then = table
        self.calls = {figure[0]: (figure[1], figure[2]) for figure in query[1]}
        self.looks = looks_of(table, query)
        self.values_by_key = {}

    def take_values(self, known, keys):
        """Compute the values of these keys, and take all others from the known ones."""
        fresh = {(number, name): call_value(self.calls[name], self.looks[number, name]) for number, name in keys}
        self.values_by_key = {key: fresh[key] if key in fresh else known[key] for key in self.looks}


def _edited(table, edit):
    """The TABLE after one EDIT."""
    if edit[0] == "add":
        return added(table, edit[1], edit[2])
    if edit[0] == "change":
        return changed(table, edit[1], edit[2])
    return deleted(table, edit[1])
