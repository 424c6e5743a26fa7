"""Values that several tests share, and helpers to try calls in every allowed form."""

import copy
import itertools

SHOP = (
    (("kind", "text"), ("price", "number"), ("day", "number")),
    (
        (1, ("tea", 3, 1)),
        (2, ("tea", 4, 2)),
        (3, ("rice", 2, 1)),
        (4, ("tea", 5, None)),
        (5, ("rice", 2, 2)),
    ),
)
COLUMNS = SHOP[0]
NO_ROWS = (COLUMNS, ())

# Values of every kind that a parameter called thing may have and that describe nothing.
STRAY_VALUES = [
    None, True, False, 0, 1, -1, 10 ** 40, "", "a", "tea", "nobody", "text",
    (), [], (()), [()], ([],), (None,), (None, None), (None, None, None), (None, None, None, None),
    (True, False), (1, 2), (1, 2, 3), (1, 2, 3, 4), ("a", "b"), ("abc"), "ab", "abc", "abcd",
    ("a", ()), ((), "a"), ([], []), (((),), ((),)), ((((),),),), [[[[]]]], ((), (), ()), ((), (), (), ()),
]


def listed(value):
    """The value with a list for each tuple, at any depth."""
    if isinstance(value, (list, tuple)):
        return [listed(item) for item in value]
    return value


def deep(levels):
    """A tuple nested so many levels deep."""
    value = ()
    for _ in range(levels - 1):
        value = (value,)
    return value


def one_part_replaced(value, others):
    """Every value that is this one with one of the others in place of one part of it, or of the whole."""
    yield from others
    if isinstance(value, tuple):
        for place, item in enumerate(value):
            for changed in one_part_replaced(item, others):
                yield value[:place] + (changed,) + value[place + 1:]


def one_part_more_or_less(value):
    """Every value that is this one with one part of it twice, or left out."""
    if isinstance(value, tuple):
        for place, item in enumerate(value):
            yield value[:place] + value[place + 1:]
            yield value[:place] + (item,) + value[place:]
            for changed in one_part_more_or_less(item):
                yield value[:place] + (changed,) + value[place + 1:]


def strict(value):
    """The value in a form in which 1, True and a list for a tuple are told apart."""
    if isinstance(value, (list, tuple)):
        return (type(value).__name__, [strict(item) for item in value])
    return (type(value).__name__, value)


def in_all_forms(case, function, /, **arguments):
    """The answer of a call that must be the same by position, by name and with lists for tuples.

    The parameter called thing stays as it is in all of them.
    """
    before = copy.deepcopy(arguments)
    answer = function(*arguments.values())
    case.assertEqual(strict(function(**arguments)), strict(answer))
    turned_round = dict(reversed(list(arguments.items())))
    case.assertEqual(strict(function(**turned_round)), strict(answer))
    lists = {name: value if name == "thing" else listed(value) for name, value in arguments.items()}
    kept = copy.deepcopy(lists)
    case.assertEqual(strict(function(**lists)), strict(answer))
    case.assertEqual(strict(function(*lists.values())), strict(answer))
    case.assertEqual(strict(lists), strict(kept))
    case.assertEqual(strict(arguments), strict(before))
    return answer


def error_in_all_forms(case, wanted, attributes, function, /, **arguments):
    """Check that a call raises this error in every form, and leaves its arguments as they were."""
    lists = {name: listed(value) for name, value in arguments.items()}
    for form in (arguments, lists):
        before = copy.deepcopy(form)
        for call in (lambda: function(*form.values()), lambda: function(**form)):
            with case.assertRaises(wanted) as caught:
                call()
            case.assertIs(type(caught.exception), wanted)
            for name, value in attributes.items():
                case.assertEqual(strict(getattr(caught.exception, name)), strict(value))
        case.assertEqual(strict(form), strict(before))


def each_true(case, function, things, /, **arguments):
    """Check that the answer is True for each of these things, in every form of the other arguments."""
    for thing in things:
        with case.subTest(thing=thing):
            case.assertIs(in_all_forms(case, function, **arguments, thing=thing), True)


def each_false(case, function, things, /, **arguments):
    """Check that the answer is False for each of these things, in every form of the other arguments."""
    for thing in things:
        with case.subTest(thing=thing):
            case.assertIs(in_all_forms(case, function, **arguments, thing=thing), False)


ALL_SO_FAR = (("kind",), (("day", "up", "last"),), ("rows", ("start",), ("here",), "nobody"))
RUNNING = ALL_SO_FAR[2]
UNITS = ("rows", "range", "groups")
WITHOUTS = ("nobody", "row", "group", "ties")


def inner_bounds(numbers):
    """The bounds that may stand on either side, with each of these numbers."""
    return [("here",)] + [(word, number) for word in ("before", "after") for number in numbers]


def frames_with(units, numbers, withouts):
    """Every FRAME of these units and ways to leave rows out whose bounds have these numbers."""
    lows = [("start",)] + inner_bounds(numbers)
    highs = [("end",)] + inner_bounds(numbers)
    return [(unit, low, high, without)
            for unit in units for low in lows for high in highs for without in withouts]


def line_of_values(way, values):
    """The LINE of a partition that is ordered by one column of numbers with these cells."""
    entries = []
    for value in values:
        if entries and entries[-1][1] == value:
            entries.append(entries[-1])
        else:
            entries.append((entries[-1][0] + 1 if entries else 0, value))
    return (way, tuple(entries))


def line_of_sizes(sizes):
    """The LINE of a partition with peer groups of these sizes, whose order gives its rows no value."""
    return ("up", tuple((group, None) for group, size in enumerate(sizes) for _ in range(size)))


def value_lines(longest, numbers):
    """Every LINE by one column of numbers, of at most so many places, with these values and rows without one."""
    found = []
    for many in range(1, longest + 1):
        for nulls in range(many + 1):
            for values in itertools.combinations_with_replacement(numbers, many - nulls):
                unknown = (None,) * nulls
                for way, known in (("up", values), ("down", values[::-1])):
                    found.append(line_of_values(way, unknown + known))
                    found.append(line_of_values(way, known + unknown))
    return list(dict.fromkeys(found))


def size_lines(longest):
    """Every LINE whose order gives no values, of at most so many places."""
    found = []
    for many in range(1, longest + 1):
        for cuts in itertools.product((False, True), repeat=many - 1):
            sizes = [1]
            for cut in cuts:
                if cut:
                    sizes.append(1)
                else:
                    sizes[-1] += 1
            found.append(line_of_sizes(sizes))
    return found


def lines_and_frames(longest, numbers, withouts):
    """Pairs of LINEs and FRAMEs that may stand with them: without values no range has a number."""
    values = value_lines(longest, (0, 1, 3))
    for line in values:
        for frame in frames_with(UNITS, numbers, withouts):
            yield line, frame
    for line in size_lines(longest):
        for frame in frames_with(("rows", "groups"), numbers, withouts) + frames_with(("range",), (), withouts):
            yield line, frame
