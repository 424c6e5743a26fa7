"""A desk: sheets of a table, a query and requests, and the answers to these."""

from overrows.conditions import kept
from overrows.errors import BadCells, BadLine, NoColumn, NoRow, Taken, Twice
from overrows.lines import Reader, line_told, number_told, values_told
from overrows.live import Board
from overrows.passing import moved
from overrows.plans import fewest_sorts
from overrows.reasons import why
from overrows.tables import added
from overrows.texts import query_text, told_by
from overrows.writing import value_text

# The words with which lines begin, in the order in which the lines come.
STAGES = (
    ("column",),
    ("row",),
    ("where", "keep", "order", "window", "figure"),
    ("board",),
    ("add", "change", "delete", "undo", "figures", "answer", "why", "sorts", "filters", "computed"),
)
FIRST_STAGE = 0
QUERY_STAGE = 2
BOARD_STAGE = 3


def answers(text):
    """The list of the answers to the requests of a sheet, one text for each."""
    sheet = Sheet()
    lines = text.split("\n")
    for number, line in enumerate(lines):
        reader = Reader(line, number)
        if not reader.is_through():
            sheet.take(reader)
    if sheet.stage < BOARD_STAGE:
        raise BadLine(len(lines))
    table = sheet.table()
    query = told_by(table[0], sheet.query_lines).query()
    board = Board(table, query)
    return [_answer_or_refusal(board, query, request) for request in sheet.requests]


class Sheet:
    """The lines of a sheet that have been read so far."""

    def __init__(self):
        self.stage = FIRST_STAGE
        self.columns = []
        self.rows = []
        # Pairs (number, what the line says).
        self.query_lines = []
        self.requests = []

    def take(self, reader):
        """Take in the next line with tokens."""
        stage = _stage_of(reader)
        if not self._may_come(stage):
            raise BadLine(reader.number)
        self.stage = stage
        if stage == QUERY_STAGE:
            self.query_lines.append((reader.number, line_told(reader)))
            return
        said = _sheet_line(reader)
        if said[0] == "column":
            self.columns.append(said[1:])
        elif said[0] == "row":
            self.rows.append(said[1:])
        elif said[0] != "board":
            self.requests.append(said)

    def table(self):
        """The TABLE of the columns and rows."""
        names = []
        for name, _ in self.columns:
            if name in names:
                raise Twice(name)
            names.append(name)
        table = (tuple(self.columns), ())
        for number, cells in self.rows:
            table = added(table, number, cells)
        return table

    def _may_come(self, stage):
        """Whether a line of this stage may stand here."""
        if stage == FIRST_STAGE:
            return self.stage == FIRST_STAGE
        if len(self.columns) == 0 or stage < self.stage:
            return False
        if stage == BOARD_STAGE:
            return self.stage < BOARD_STAGE
        return stage < BOARD_STAGE or self.stage >= BOARD_STAGE


def _stage_of(reader):
    """The stage of the lines that begin as this one does."""
    for stage, words in enumerate(STAGES):
        if reader.seen() in [("word", word) for word in words]:
            return stage
    raise BadLine(reader.number)


def _sheet_line(reader):
    """What a line says that is none of a query text: a tuple that begins with its first word."""
    word = reader.value_of(("word",))
    if word == "column":
        said = (word, reader.name_told(), reader.expect_one_of(("text", "number")))
    elif word in ("row", "add", "change"):
        said = (word, number_told(reader), values_told(reader))
    elif word == "delete":
        said = (word, number_told(reader))
    elif word == "why":
        said = (word, number_told(reader), reader.name_told())
    else:
        said = (word,)
    reader.close()
    return said


def _answer_or_refusal(board, query, request):
    try:
        return _answer(board, query, request)
    except Taken:
        return "refused Taken"
    except BadCells:
        return "refused BadCells"
    except NoRow:
        return "refused NoRow"
    except NoColumn:
        return "refused NoColumn"


def _answer(board, query, request):
    word = request[0]
    if word in ("add", "change", "delete"):
        return _parts_text([f"{number} {name} {reason}" for number, name, reason in board.do([request])])
    if word == "undo":
        return "done" if board.undo() else "nothing"
    if word == "figures":
        return _parts_text([_row_text(number, values) for number, values in board.figures()])
    if word == "answer":
        return _parts_text([_row_text(number, values) for number, _, values in board.answer()])
    if word == "why":
        return _why_text(board, query, request[1], request[2])
    if word == "sorts":
        return str(fewest_sorts(query[1]))
    if word == "filters":
        return query_text(moved(board.table()[0], query)).replace("\n", " / ")
    return str(board.computed())


def _why_text(board, query, number, name):
    named = [figure for figure in query[1] if figure[0] == name]
    if len(named) == 0:
        raise NoColumn(name)
    reason = why(kept(board.table(), query[0]), named[0], number)
    return _parts_text([" ".join([str(other) for other in counted]) or "-" for counted in reason])


def _row_text(number, values):
    return " ".join([str(number), *[value_text(value) for value in values]])


def _parts_text(parts):
    """The parts of an answer, a dash for none."""
    return "; ".join(parts) or "-"
