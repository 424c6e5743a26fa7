"""Writing: values, conditions and windows as texts, with all left out that may be left out."""

from overrows.functions import OFFSETS, RANKS
from overrows.lines import STRENGTHS
from overrows.tokens import FIXED_WORDS
from overrows.values import is_number

PLAIN_FRAME = ("range", ("start",), ("here",), "nobody")


def value_text(value):
    """A VALUE or a FRACTION as a token."""
    if value is None:
        return "null"
    if is_number(value):
        return str(value)
    if isinstance(value, tuple):
        return f"{value[0]}/{value[1]}"
    return '"' + value.replace('"', '""') + '"'


def name_text(name):
    """A NAME, with a dot only if it must have one."""
    return "." + name if name in FIXED_WORDS else name


def order_text(order):
    """The KEYs of an ORDER."""
    return ", ".join([_key_text(item) for item in order])


def condition_text(condition, least=0):
    """A CONDITION, in brackets if it binds less strongly than told."""
    word = condition[0]
    if word == "null":
        return _item_text(condition[1]) + " is null"
    if word == "compare":
        _, item, sign, other = condition
        return f"{_item_text(item)} {sign} {_item_text(other)}"
    strength = STRENGTHS[word]
    if word == "not":
        text = "not " + condition_text(condition[1], strength)
    else:
        # Both are grouped from the left, so only a part on the right that binds no more strongly has brackets.
        text = f"{condition_text(condition[1], strength)} {word} {condition_text(condition[2], strength + 1)}"
    return f"({text})" if strength < least else text


def figure_text(figure, over):
    """A figure line, over what is told."""
    name, function, arguments, condition, _ = figure
    words = ["figure", name_text(name), "=", f"{function}({_arguments_text(function, arguments)})"]
    if condition is not None:
        words.extend(["if", condition_text(condition)])
    return " ".join([*words, "over", over])


def spec_text(window, base, base_order):
    """A SPEC that tells a WINDOW, built on the window of the NAME base, which has this order; base may be None."""
    parts, order, frame = window
    words = [] if base is None else [name_text(base)]
    if base is None and len(parts) > 0:
        words.append("by " + ", ".join([name_text(name) for name in parts]))
    if order != base_order:
        words.append("order " + order_text(order))
    if frame != PLAIN_FRAME:
        words.append(_frame_text(frame))
    return " ".join(words)


def _item_text(item):
    word, value = item
    return name_text(value) if word == "column" else value_text(value)


def _key_text(item):
    name, way, nulls = item
    words = [name_text(name)]
    if way == "down":
        words.append("down")
    if nulls != ("last" if way == "up" else "first"):
        words.append(nulls)
    return " ".join(words)


def _arguments_text(function, arguments):
    if function in RANKS:
        return ", ".join([value_text(argument) for argument in arguments])
    words = [name_text(name) for name in arguments[:1]]
    if function not in OFFSETS:
        return ", ".join([*words, *arguments[1:]])
    words.extend([value_text(argument) for argument in arguments[1:-1] if argument is not None])
    if arguments[-1] == "passed":
        words.append("passed")
    return ", ".join(words)


def _frame_text(frame):
    unit, low, high, without = frame
    words = [unit, _bound_text(low)]
    if high != ("here",):
        words.extend(["to", _bound_text(high)])
    if without != "nobody":
        words.extend(["without", without])
    return " ".join(words)


def _bound_text(bound):
    return bound[0] if len(bound) == 1 else f"{bound[1]} {bound[0]}"
