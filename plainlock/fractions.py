"""FRACTIONS: pairs (a, b) of numbers without a common divisor, b from 1."""

from math import gcd, lcm

from plainlock.errors import CanNot
from plainlock.forms import is_number, is_row

ZERO = (0, 1)
ONE = (1, 1)


def fraction(top, below):
    """The FRACTION top / below; CanNot() if below is 0."""
    if below == 0:
        raise CanNot()
    common = gcd(top, below)
    if below < 0:
        common = -common
    return (top // common, below // common)


def is_fraction(thing):
    """Whether thing is a FRACTION."""
    if not is_row(2, thing):
        return False
    top, below = thing
    return is_number(top) and is_number(below) and below >= 1 and gcd(top, below) == 1


def plus(x, y):
    """x + y."""
    a, b = x
    c, d = y
    return fraction(a * d + c * b, b * d)


def minus(x, y):
    """x - y."""
    a, b = x
    c, d = y
    return fraction(a * d - c * b, b * d)


def times(x, y):
    """x * y."""
    a, b = x
    c, d = y
    return fraction(a * c, b * d)


def over(x, y):
    """x / y; CanNot() if y is 0."""
    a, b = x
    c, d = y
    return fraction(a * d, b * c)


def less(x, y):
    """Whether x is less than y."""
    a, b = x
    c, d = y
    return a * d < c * b


def least(some):
    """The least of a tuple of FRACTIONS; None without any."""
    found = None
    for x in some:
        if found is None or less(x, found):
            found = x
    return None if found is None else tuple(found)


def greatest(some):
    """The greatest of a tuple of FRACTIONS; None without any."""
    found = None
    for x in some:
        if found is None or less(found, x):
            found = x
    return None if found is None else tuple(found)


def sum_of(some):
    """What the FRACTIONS of a tuple add up to."""
    tops, below = whole(some)
    return fraction(sum(tops), below)


def whole(some):
    """(tops, below): each of some as its top over one below for all of them.

    The pairs of some may have common divisors here.
    """
    below = 1
    for x in some:
        below = lcm(below, x[1])
    return [x[0] * (below // x[1]) for x in some], below


def negative(x):
    """-x."""
    return (-x[0], x[1])


def is_from_zero(thing):
    """Whether thing is a FRACTION from 0."""
    return is_fraction(thing) and thing[0] >= 0


def is_most(least_one, thing):
    """Whether thing is None or a FRACTION not below least_one."""
    return thing is None or (is_fraction(thing) and not less(thing, least_one))
