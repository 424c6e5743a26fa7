"""What the other files share: plain values, names, tuples and fractions."""

from math import gcd


def is_number(thing):
    """Whether thing is a number; True and False are none."""
    return isinstance(thing, int) and not isinstance(thing, bool)


def is_number_from(least, thing):
    """Whether thing is a number that is not below the least one."""
    return is_number(thing) and thing >= least


def is_name(thing):
    """Whether thing is a NAME: one to eight letters a to z."""
    if not isinstance(thing, str) or not 1 <= len(thing) <= 8:
        return False
    return all(["a" <= letter <= "z" for letter in thing])


def is_cell(kind, thing):
    """Whether thing may stand in a column of this kind."""
    if kind == "number":
        return thing is None or is_number(thing)
    return thing is None or isinstance(thing, str)


def is_fraction(thing):
    """Whether thing is a FRACTION: a pair in lowest terms with a denominator from 1."""
    if not is_tuple_of(2, thing) or not is_number(thing[0]) or not is_number_from(1, thing[1]):
        return False
    return gcd(thing[0], thing[1]) == 1


def is_tuple_of(many, thing):
    """Whether thing is a tuple with so many items."""
    return isinstance(thing, tuple) and len(thing) == many


def tupled(value):
    """The value with a tuple for each list, at any depth."""
    if isinstance(value, (list, tuple)):
        return tuple([tupled(item) for item in value])
    return value


def fraction(numerator, denominator):
    """The FRACTION in lowest terms; the denominator is from 1."""
    divisor = gcd(numerator, denominator)
    return numerator // divisor, denominator // divisor


def is_less(one, other):
    """Whether one value is less than another one of its kind, numbers and FRACTIONs by their size."""
    if isinstance(one, str):
        return one < other
    numerator, denominator = _as_fraction(one)
    other_numerator, other_denominator = _as_fraction(other)
    return numerator * other_denominator < other_numerator * denominator


def _as_fraction(value):
    return (value, 1) if is_number(value) else value
