"""Touched figures: which looks are new, gone or different between two tables."""

from overrows.conditions import kept
from overrows.parts import partitions
from overrows.plain import looks_along
from overrows.values import tupled


def touched(table, later, query):
    """The ascending list of all TOUCHes between two TABLEs with the same columns."""
    return touches_between(looks_of(table, query), looks_of(later, query))


def looks_of(table, query):
    """The dict of the looks of all rows that where keeps, by pairs (ROW NUMBER, name of the FIGURE)."""
    where, asked, _, _ = tupled(query)
    rows = kept(table, where)
    found = {}
    for figure in asked:
        for numbers in partitions(rows, figure[4]):
            for number, seen in zip(numbers, looks_along(rows, figure, numbers)):
                found[number, figure[0]] = seen
    return found


def touches_between(early, late):
    """The ascending list of the TOUCHes between two dicts of looks."""
    new = [(number, name, "new") for number, name in late if (number, name) not in early]
    gone = [(number, name, "gone") for number, name in early if (number, name) not in late]
    both = [key for key in late if key in early]
    changed = [(number, name, "look") for number, name in both if late[number, name] != early[number, name]]
    return sorted(new + gone + changed)
