"""The errors of the package: each one keeps the values that it was created with."""


class Taken(ValueError):
    """A row with this number is there already."""

    def __init__(self, number):
        self.number = number


class BadCells(ValueError):
    """These are no cells for the columns of the table."""

    def __init__(self, cells):
        self.cells = cells


class NoWay(ValueError):
    """The function may not be reckoned in this way."""

    def __init__(self, way):
        self.way = way


class NotSimple(ValueError):
    """The condition is not a simple one."""

    def __init__(self, condition):
        self.condition = condition


class NotFree(ValueError):
    """The figure of this name is not free of the condition's column."""

    def __init__(self, name):
        self.name = name


class BadLine(ValueError):
    """The line of this number is not written as it must be."""

    def __init__(self, number):
        self.number = number


class Twice(ValueError):
    """This name or line may come only once."""

    def __init__(self, name):
        self.name = name


class Fixed(ValueError):
    """The window of this name does not let a window built on it say that."""

    def __init__(self, name):
        self.name = name


class Misfit(ValueError):
    """What the line of this number says does not fit the columns."""

    def __init__(self, number):
        self.number = number


class NoRoom(ValueError):
    """The room is too small for pages of that size."""

    def __init__(self, room):
        self.room = room


class NoColumn(LookupError):
    """There is no column of this name."""

    def __init__(self, name):
        self.name = name


class NoRow(LookupError):
    """There is no row of this number."""

    def __init__(self, number):
        self.number = number


class NoWindow(LookupError):
    """There is no window of this name."""

    def __init__(self, name):
        self.name = name


class NoOperation(LookupError):
    """There are not so many operations in effect."""

    def __init__(self, many):
        self.many = many


class Apart(RuntimeError):
    """No sort serves both of these needs."""

    def __init__(self, one, other):
        self.one = one
        self.other = other


class Unserved(RuntimeError):
    """No sort of the plan serves this need."""

    def __init__(self, need):
        self.need = need
