"""The edges of a cone: the least supports by which rows add up to nothing."""

from math import gcd


def edges(rows, many):
    """Each edge of the numbers from 0, one a row, by which the rows add up to 0.

    rows have so many whole numbers each. An edge is a list of whole numbers
    without a common divisor; no two are multiples of each other.
    """
    # Each edge at hand: the bits of its places other than 0, its numbers, and
    # what the rows, times these, add up to in the columns.
    found = [(1 << k, _unit(len(rows), k), list(row)) for k, row in enumerate(rows)]
    passed = 0
    for column in range(many):
        if any(sums[column] for _, _, sums in found):
            passed += 1
            found = _cut(found, column, passed)
    return [numbers for _, numbers, _ in found]


def _unit(many, at):
    return [1 if k == at else 0 for k in range(many)]


def _cut(found, column, passed):
    """The edges of what is left of a cone where this column adds up to 0, too."""
    kept = [edge for edge in found if edge[2][column] == 0]
    above = [edge for edge in found if edge[2][column] > 0]
    under = [edge for edge in found if edge[2][column] < 0]
    supports = [edge[0] for edge in found]
    for one in above:
        for other in under:
            both = one[0] | other[0]
            # An edge has at most one place more than columns were passed.
            if _bits(both) <= passed + 1 and _is_joined(both, supports):
                kept.append(_between(one, other, column))
    return kept


def _is_joined(both, supports):
    """Whether the two edges with these places share a face of their own."""
    inside = 0
    for support in supports:
        if support | both == both:
            inside += 1
            if inside > 2:
                return False
    return True


def _bits(number):
    many = 0
    while number:
        number = number & (number - 1)
        many += 1
    return many


def _between(one, other, column):
    """The edge between two, that adds up to 0 in this column."""
    x, y = one[2][column], -other[2][column]
    numbers = [y * a + x * b for a, b in zip(one[1], other[1])]
    sums = [y * a + x * b for a, b in zip(one[2], other[2])]
    common = 0
    for number in numbers:
        common = gcd(common, number)
    numbers = [number // common for number in numbers]
    return (one[0] | other[0], numbers, [x // common for x in sums])
