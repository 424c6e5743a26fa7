"""Tokens: the words, names, numbers, texts and signs of which a line consists.

A token is a pair (kind, value): ("word", letters), ("name", the letters behind a dot), ("number", number),
("fraction", FRACTION), ("text", text) or ("sign", sign).
"""

from math import gcd

from overrows.errors import BadLine

LETTERS = "abcdefghijklmnopqrstuvwxyz"
DIGITS = "0123456789"
SIGNS = ("<>", "<=", ">=", "(", ")", ",", "=", "<", ">")
FIXED_WORDS = (
    "and", "after", "before", "between", "by", "down", "end", "first", "group", "groups", "here", "if", "in", "is",
    "last", "not", "null", "or", "order", "over", "passed", "range", "row", "rows", "start", "ties", "to", "unlike",
    "up", "without",
)


def tokens_of(line, number):
    """The list of the tokens of the line of this number."""
    found = []
    place = 0
    while place < len(line):
        if line[place] == " ":
            place += 1
            continue
        end, token = _token_at(line, place)
        if token is None or _runs_on(line, place):
            raise BadLine(number)
        found.append(token)
        place = end
    return found


def _runs_on(line, place):
    """Whether a letter or digit stands directly behind another one, where a new token begins."""
    return place > 0 and line[place - 1] in LETTERS + DIGITS and line[place] in LETTERS + DIGITS


def _token_at(line, place):
    """The pair of the place behind the token that begins at a place, and this token, or None if there is none."""
    mark = line[place]
    if mark in LETTERS:
        end = _end_of(LETTERS, line, place)
        return end, ("word", line[place:end])
    if mark == ".":
        end = _end_of(LETTERS, line, place + 1)
        return end, ("name", line[place + 1:end]) if 1 <= end - place - 1 <= 8 else None
    if mark == '"':
        return _text_at(line, place)
    if mark in DIGITS or mark == "-":
        return _number_at(line, place)
    for sign in SIGNS:
        if line.startswith(sign, place):
            return place + len(sign), ("sign", sign)
    return place, None


def _end_of(marks, line, place):
    """The first place from this one on with none of these marks."""
    while place < len(line) and line[place] in marks:
        place += 1
    return place


def _text_at(line, place):
    """As for tokens of every kind, of a text; a quote in it is written twice."""
    end = place + 1
    parts = []
    while end < len(line):
        closing = line.find('"', end)
        if closing < 0:
            return place, None
        parts.append(line[end:closing])
        if not line.startswith('"', closing + 1):
            return closing + 1, ("text", '"'.join(parts))
        end = closing + 2
    return place, None


def _number_at(line, place):
    """As for tokens of every kind, of a number or a FRACTION."""
    start = place + 1 if line[place] == "-" else place
    end = _end_of(DIGITS, line, start)
    digits = line[start:end]
    if not _are_digits(digits) or (digits == "0" and start > place):
        return place, None
    value = int(line[place:end])
    if not line.startswith("/", end):
        return end, ("number", value)
    below_end = _end_of(DIGITS, line, end + 1)
    below = line[end + 1:below_end]
    if not _are_digits(below) or below == "0" or gcd(value, int(below)) != 1:
        return place, None
    return below_end, ("fraction", (value, int(below)))


def _are_digits(digits):
    """Whether digits, or none, are those of a number."""
    return 1 <= len(digits) <= 15 and (digits == "0" or digits[0] != "0")
