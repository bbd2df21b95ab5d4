"""LINES: sums of unknowns that are at most their bounds; ANSWERS, SUMS, EXTREMES."""

from math import gcd

from plainlock.cones import edges
from plainlock.errors import CanNot, NoPlace, Unfit
from plainlock.forms import goes_up, is_place, is_row, is_tuple_of, tupled
from plainlock.fractions import ZERO, is_fraction, is_from_zero, less, negative, sum_of, whole
from plainlock.weighing import Weighing, unknowns_in, whole_line

# Unknowns are the numbers below this one.
UNKNOWNS = 100


def is_lines(thing):
    """Whether thing is LINES."""
    return is_tuple_of(_is_line, thing)


def _is_line(thing):
    if not is_row(2, thing):
        return False
    terms, bound = thing
    if not is_tuple_of(_is_term, terms) or not is_fraction(bound):
        return False
    return goes_up([unknown for unknown, _ in terms])


def _is_term(thing):
    if not is_row(2, thing):
        return False
    unknown, x = thing
    return is_place(UNKNOWNS, unknown) and is_fraction(x) and x[0] != 0


def is_answer(lines, thing):
    """Whether thing is an ANSWER of LINES."""
    unknowns = unknowns_in(lines)
    many = unknowns[-1] + 1 if unknowns else 0
    if not is_row(many, thing) or not is_tuple_of(is_fraction, thing):
        return False
    tops, below = whole(thing)
    return all(_is_kept(line, tops, below) for line in lines)


def _is_kept(line, tops, below):
    """Whether the unknowns keep a LINE, each of them its top over below."""
    numbers = whole_line(line)[0]
    total = 0
    for (unknown, _), x in zip(line[0], numbers):
        total += x * tops[unknown]
    return total <= numbers[-1] * below


def is_sum(lines, thing):
    """Whether thing is a SUM of LINES."""
    if not _is_weights(lines, thing):
        return False
    terms, bound = put_together(lines, thing)
    return terms == () and less(bound, ZERO)


def _is_weights(lines, thing):
    return is_row(len(lines), thing) and is_tuple_of(is_from_zero, thing)


def put_together(lines, weights):
    """The LINE of LINES, each times its weight, added up; Unfit() if these are no WEIGHTS."""
    weights = tupled(weights)
    if not _is_weights(lines, weights):
        raise Unfit()
    tops, below = whole(weights)
    parts, bounds = {}, []
    for (terms, bound), top in zip(lines, tops):
        if top:
            bounds.append((top * bound[0], below * bound[1]))
            for unknown, x in terms:
                parts.setdefault(unknown, []).append((top * x[0], below * x[1]))
    added = [(unknown, sum_of(parts[unknown])) for unknown in sorted(parts)]
    return (tuple([term for term in added if term[1] != ZERO]), sum_of(bounds))


def answer(lines):
    """An ANSWER of LINES; CanNot() if there is none."""
    weighing = Weighing(lines, None)
    if not weighing.has_answer():
        raise CanNot()
    told = weighing.answer_now()
    many = weighing.names[-1] + 1 if told else 0
    return tuple([told.get(unknown, ZERO) for unknown in range(many)])


def sum_against(lines):
    """A SUM of LINES; CanNot() if there is none."""
    weighing = Weighing(lines, None)
    if weighing.has_answer():
        raise CanNot()
    return weighing.sum_now()


def extremes(lines):
    """The set of all EXTREMES of LINES."""
    unknowns = unknowns_in(lines)
    columns = {unknown: k for k, unknown in enumerate(unknowns)}
    rows, scales = [], []
    for line in lines:
        numbers, scale = whole_line((line[0], ZERO))
        row = [0] * len(unknowns)
        for (unknown, _), x in zip(line[0], numbers):
            row[columns[unknown]] = x
        rows.append(row)
        scales.append(scale)
    return tuple(sorted([_shortened(edge, scales) for edge in edges(rows, len(unknowns))]))


def _shortened(edge, scales):
    """Whole WEIGHTS without a common divisor, from those of the whole rows."""
    tops = whole([(x * top, below) for x, (top, below) in zip(edge, scales)])[0]
    common = 0
    for top in tops:
        common = gcd(common, top)
    return tuple([(top // common, 1) for top in tops])


def greatest_of(lines, unknown):
    """The greatest FRACTION of unknown in an ANSWER; None if there is no greatest.

    NoPlace(unknown) if it does not occur, then CanNot() without an ANSWER.
    """
    return _top(lines, unknown, 1)


def least_of(lines, unknown):
    """The least FRACTION of unknown in an ANSWER, else as greatest_of."""
    found = _top(lines, unknown, -1)
    return None if found is None else negative(found)


def _top(lines, unknown, sign):
    """The greatest FRACTION of sign times unknown."""
    if unknown not in unknowns_in(lines):
        raise NoPlace(unknown)
    weighing = Weighing(lines, {unknown: sign})
    if not weighing.has_answer():
        raise CanNot()
    return weighing.top() if weighing.has_top() else None
