"""Promises 2 and 5: conditions, their truths, the columns that they name and the rows that they keep."""

import itertools
import unittest

from overrows.conditions import is_condition, kept, names_in, truth
from tests.samples import (
    COLUMNS, NO_ROWS, SHOP, STRAY_VALUES, deep, each_false, each_true, in_all_forms, listed, one_part_more_or_less,
    one_part_replaced,
)

CHEAP = ("compare", ("column", "price"), "<", ("plain", 4))
EARLY = ("compare", ("column", "day"), "<", ("plain", 2))
SIGNS = ("=", "<>", "<", "<=", ">", ">=")
# Conditions without columns, by their truth.
KNOWN = {
    True: ("compare", ("plain", 1), "=", ("plain", 1)),
    False: ("compare", ("plain", 1), "=", ("plain", 2)),
    None: ("compare", ("plain", 1), "=", ("plain", None)),
}


def kinds_in_words(columns, thing):
    """The kinds that an ITEM fits, None if thing is no ITEM."""
    match thing:
        case ("column", str(name)) if name in dict(columns):
            return {dict(columns)[name]}
        case ("plain", None):
            return {"number", "text"}
        case ("plain", bool()):
            return None
        case ("plain", int()):
            return {"number"}
        case ("plain", str()):
            return {"text"}
    return None


def is_condition_in_words(columns, thing):
    """Whether thing, made of tuples, is a CONDITION."""
    match thing:
        case ("compare", one, sign, other) if sign in SIGNS and isinstance(sign, str):
            kinds = kinds_in_words(columns, one), kinds_in_words(columns, other)
            return None not in kinds and bool(kinds[0] & kinds[1])
        case ("null", item):
            return kinds_in_words(columns, item) is not None
        case ("not", part):
            return is_condition_in_words(columns, part)
        case ("and" | "or", one, other):
            return is_condition_in_words(columns, one) and is_condition_in_words(columns, other)
    return False


class IsCondition(unittest.TestCase):
    def test_compare(self):
        items = [("column", name) for name, _ in COLUMNS] + [("plain", value) for value in (None, 0, -3, "", "tea")]
        kinds = ["text", "number", "number", "any", "number", "number", "text", "text"]
        for (one, kind), (other, other_kind) in itertools.product(zip(items, kinds), repeat=2):
            wanted = kind == other_kind or "any" in (kind, other_kind)
            for sign in SIGNS:
                self.assertIs(is_condition(COLUMNS, ("compare", one, sign, other)), wanted, (one, sign, other))

    def test_example(self):
        each_false(self, is_condition, [("compare", ("column", "kind"), "<", ("plain", 4))], columns=COLUMNS)
        each_true(self, is_condition, [CHEAP, EARLY, ("or", CHEAP, EARLY), ("not", EARLY)], columns=COLUMNS)

    def test_null_and_parts_within_parts(self):
        each_true(self, is_condition, [
            ("null", ("column", "kind")), ("null", ("plain", None)), ("null", ("plain", 5)), ("null", ("plain", "x")),
            ("not", ("not", ("null", ("column", "day")))),
            ("and", CHEAP, ("or", EARLY, ("not", ("and", CHEAP, CHEAP)))),
            ("compare", ("plain", None), "<>", ("plain", None)),
        ], columns=COLUMNS)

    def test_any_numbers_and_texts(self):
        long = "a text of more than twelve characters \n % \u00e4"
        each_true(self, is_condition, [
            ("compare", ("column", "kind"), "<", ("plain", long)),
            ("compare", ("column", "price"), "<", ("plain", -10 ** 40)),
        ], columns=COLUMNS)

    def test_other_columns(self):
        self.assertIs(in_all_forms(self, is_condition, columns=(), thing=("null", ("plain", None))), True)
        self.assertIs(in_all_forms(self, is_condition, columns=(), thing=("null", ("column", "kind"))), False)
        columns = (("price", "text"), ("null", "number"))
        self.assertIs(in_all_forms(self, is_condition, columns=columns, thing=CHEAP), False)
        self.assertIs(in_all_forms(self, is_condition, columns=columns, thing=("null", ("column", "null"))), True)

    def test_fractions_are_no_values(self):
        each_false(self, is_condition, [
            ("compare", ("column", "price"), "<", ("plain", (1, 2))),
            ("null", ("plain", (1, 2))), ("null", ("plain", (2, 1))),
        ], columns=COLUMNS)

    def test_wrong_things(self):
        each_false(self, is_condition, STRAY_VALUES + [
            deep(16), listed(deep(16)), listed(CHEAP), ("not", listed(CHEAP)), ("null", ["column", "day"]),
            ("null",), ("not",), ("and", CHEAP), ("or", CHEAP), ("and",), ("compare",),
            ("null", ("column", "day"), ("column", "day")), ("not", CHEAP, CHEAP), ("and", CHEAP, CHEAP, CHEAP),
            ("xor", CHEAP, CHEAP), ("and", CHEAP, None), ("not", None), ("null", None), (CHEAP,), (CHEAP, EARLY),
            ("null", ("column", "days")), ("null", ("column", None)), ("null", ("column", ("day",))),
            ("null", ("plain",)), ("null", ("plain", 1, 2)), ("null", ("plain", True)), ("null", ("plain", False)),
            ("null", ("plain", ())), ("null", ("plain", [1, 2])), ("null", ("figure", "day")), ("null", "day"),
            ("null", ("column", "day", "day")), ("null", ("plain", ("plain", 1))),
            ("compare", ("column", "day"), "==", ("plain", 1)), ("compare", ("column", "day"), None, ("plain", 1)),
            ("compare", ("column", "day"), ("=",), ("plain", 1)), ("compare", ("column", "day"), "=", 1),
            ("compare", "day", "=", ("plain", 1)), ("compare", ("column", "day"), "=", ("plain", True)),
            ("compare", ("column", "day"), "=", ("plain", 1), ("plain", 1)), ("compare", ("column", "day"), "="),
        ], columns=COLUMNS)

    def test_one_part_changed(self):
        items = [("plain", 4), ("plain", "tea"), ("column", "kind"), ("column", "price")]
        parts = [CHEAP, *items, "and", "not", "null", "<"]
        for condition in [
            ("or", CHEAP, ("not", ("null", ("column", "kind")))),
            ("and", ("compare", ("plain", None), "=", ("column", "kind")), ("null", ("plain", 3))),
        ]:
            self.assertIs(is_condition(COLUMNS, condition), True)
            valid = 0
            things = [*one_part_replaced(condition, STRAY_VALUES + parts), *one_part_more_or_less(condition)]
            for thing in things:
                wanted = is_condition_in_words(COLUMNS, thing)
                self.assertIs(is_condition(COLUMNS, thing), wanted, thing)
                valid += wanted
            self.assertGreater(valid, 5)


class Truth(unittest.TestCase):
    def truth(self, condition, cells=("tea", 3, 1)):
        return in_all_forms(self, truth, columns=COLUMNS, condition=condition, cells=cells)

    def test_example(self):
        self.assertIs(self.truth(("or", CHEAP, EARLY)), True)
        self.assertIs(self.truth(("or", CHEAP, EARLY), ("tea", 5, None)), None)

    def test_signs(self):
        for one, other in itertools.product([-1, 0, 2, 10], repeat=2):
            wanted = [one == other, one != other, one < other, one <= other, one > other, one >= other]
            for sign, answer in zip(SIGNS, wanted):
                condition = ("compare", ("column", "price"), sign, ("column", "day"))
                self.assertIs(self.truth(condition, ("tea", one, other)), answer)
                self.assertIs(self.truth(("compare", ("plain", one), sign, ("plain", other))), answer)
        for one, other in itertools.product(["", "10", "2", "Tea", "tea"], repeat=2):
            wanted = [one == other, one != other, one < other, one <= other, one > other, one >= other]
            for sign, answer in zip(SIGNS, wanted):
                self.assertIs(self.truth(("compare", ("column", "kind"), sign, ("plain", other)), (one, 1, 1)), answer)

    def test_unknown_values(self):
        for sign in SIGNS:
            for cells in [("tea", None, 1), ("tea", 1, None), ("tea", None, None)]:
                self.assertIs(self.truth(("compare", ("column", "price"), sign, ("column", "day")), cells), None)
            self.assertIs(self.truth(("compare", ("plain", None), sign, ("plain", None))), None)
            self.assertIs(self.truth(("compare", ("column", "kind"), sign, ("plain", None))), None)

    def test_null(self):
        self.assertIs(self.truth(("null", ("column", "price"))), False)
        self.assertIs(self.truth(("null", ("column", "price")), ("tea", None, 1)), True)
        self.assertIs(self.truth(("null", ("column", "price")), ("tea", 0, 1)), False)
        self.assertIs(self.truth(("null", ("column", "kind")), ("", 0, 1)), False)
        self.assertIs(self.truth(("null", ("plain", None))), True)
        self.assertIs(self.truth(("null", ("plain", 0))), False)

    def test_not_and_or(self):
        for value, wanted in [(True, False), (False, True), (None, None)]:
            self.assertIs(self.truth(KNOWN[value]), value)
            self.assertIs(self.truth(("not", KNOWN[value])), wanted)
        for one, other in itertools.product([True, False, None], repeat=2):
            both = False if False in (one, other) else None if None in (one, other) else True
            either = True if True in (one, other) else None if None in (one, other) else False
            self.assertIs(self.truth(("and", KNOWN[one], KNOWN[other])), both)
            self.assertIs(self.truth(("or", KNOWN[one], KNOWN[other])), either)
            self.assertIs(self.truth(("not", ("and", ("or", KNOWN[one], KNOWN[one]), KNOWN[other]))),
                          None if both is None else not both)


class NamesIn(unittest.TestCase):
    def test_examples(self):
        self.assertEqual(in_all_forms(self, names_in, condition=("and", EARLY, CHEAP)), ["day", "price"])
        self.assertEqual(in_all_forms(self, names_in, condition=None), [])

    def test_each_part(self):
        for condition, wanted in [
            (("null", ("column", "b")), ["b"]),
            (("null", ("plain", "b")), []),
            (("not", ("null", ("column", "b"))), ["b"]),
            (("compare", ("column", "b"), "<", ("column", "a")), ["a", "b"]),
            (("compare", ("plain", "b"), "<", ("column", "a")), ["a"]),
            (("or", CHEAP, ("and", CHEAP, ("not", ("null", ("column", "a"))))), ["a", "price"]),
        ]:
            self.assertEqual(in_all_forms(self, names_in, condition=condition), wanted)

    def test_every_answer_is_a_new_list(self):
        names_in(CHEAP).clear()
        self.assertEqual(names_in(CHEAP), ["price"])


class Kept(unittest.TestCase):
    def test_example(self):
        self.assertEqual(
            in_all_forms(self, kept, table=SHOP, condition=("not", EARLY)),
            (COLUMNS, ((2, ("tea", 4, 2)), (5, ("rice", 2, 2)))))

    def test_all_rows_are_kept_by_none(self):
        self.assertEqual(in_all_forms(self, kept, table=SHOP, condition=None), SHOP)
        self.assertEqual(in_all_forms(self, kept, table=NO_ROWS, condition=None), NO_ROWS)

    def test_only_true_is_kept(self):
        for value in (True, False, None):
            wanted = SHOP if value else NO_ROWS
            self.assertEqual(in_all_forms(self, kept, table=SHOP, condition=KNOWN[value]), wanted)
        self.assertEqual(in_all_forms(self, kept, table=NO_ROWS, condition=EARLY), NO_ROWS)


if __name__ == "__main__":
    unittest.main()
