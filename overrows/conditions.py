"""Conditions: which rows are kept."""

from overrows.tables import column_of, kind_among
from overrows.values import is_fraction, is_less, is_number, is_tuple_of, tupled

SIGNS = ("=", "<>", "<", "<=", ">", ">=")


def is_condition(columns, thing):
    """Whether thing is a CONDITION for these columns."""
    return _is_condition(columns, thing, False)


def is_keep_condition(columns, thing):
    """Whether thing is a CONDITION for these columns, in which plain values may be FRACTIONs, too."""
    return _is_condition(columns, thing, True)


def truth(columns, condition, cells):
    """The truth of a CONDITION for cells of these columns: True, False or None."""
    word = condition[0]
    if word == "null":
        return _item_value(columns, condition[1], cells) is None
    if word == "compare":
        _, item, sign, other = condition
        return _comparison(_item_value(columns, item, cells), sign, _item_value(columns, other, cells))
    truths = [truth(columns, part, cells) for part in condition[1:]]
    if word == "not":
        return None if truths[0] is None else not truths[0]
    # One truth of this kind decides, whatever the other one is.
    deciding = word == "or"
    if deciding in truths:
        return deciding
    return None if None in truths else not deciding


def names_in(condition):
    """The ascending list of the columns that a CONDITION names."""
    return sorted({item[1] for item in _items_in(condition) if item[0] == "column"})


def kept(table, condition):
    """The TABLE of the rows that are kept by a CONDITION, or by None."""
    columns, rows = tupled(table)
    if condition is None:
        return columns, rows
    return columns, tuple([row for row in rows if truth(columns, condition, row[1]) is True])


def _is_condition(columns, thing, fractions):
    if not isinstance(thing, tuple) or len(thing) < 2:
        return False
    word = thing[0]
    if word == "compare":
        return len(thing) == 4 and _is_comparison(columns, thing, fractions)
    if word == "null":
        return len(thing) == 2 and _item_kinds(columns, thing[1], fractions) != ()
    parts = 1 if word == "not" else 2
    if word not in ("not", "and", "or") or len(thing) != parts + 1:
        return False
    return all([_is_condition(columns, part, fractions) for part in thing[1:]])


def _is_comparison(columns, thing, fractions):
    _, item, sign, other = thing
    other_kinds = _item_kinds(columns, other, fractions)
    return sign in SIGNS and any([kind in other_kinds for kind in _item_kinds(columns, item, fractions)])


def _item_kinds(columns, thing, fractions):
    """The tuple of the kinds that an ITEM fits, empty if thing is no ITEM."""
    if not is_tuple_of(2, thing):
        return ()
    word, value = thing
    if word == "column":
        kind = kind_among(columns, value)
        return () if kind is None else (kind,)
    if word != "plain":
        return ()
    if value is None:
        return ("number", "text")
    if is_number(value) or (fractions and is_fraction(value)):
        return ("number",)
    return ("text",) if isinstance(value, str) else ()


def _item_value(columns, item, cells):
    word, value = item
    return cells[column_of((columns, ()), value)] if word == "column" else value


def _comparison(one, sign, other):
    """Whether the comparison of two values holds, None if one of them is not known."""
    if one is None or other is None:
        return None
    less, greater = is_less(one, other), is_less(other, one)
    if sign in ("=", "<>"):
        return (less or greater) == (sign == "<>")
    if sign in ("<", ">="):
        return less == (sign == "<")
    return greater == (sign == ">")


def _items_in(condition):
    """The list of all ITEMs in a CONDITION, none of None."""
    if condition is None:
        return []
    if condition[0] == "null":
        return [condition[1]]
    if condition[0] == "compare":
        return [condition[1], condition[3]]
    return [item for part in condition[1:] for item in _items_in(part)]
