"""REGIONS: the VALUES at which some FORMS are below, at, above or from 0."""

from plainlock.fractions import ONE, ZERO, less, minus, negative, sum_of, times
from plainlock.weighing import Weighing


def value_of(form, values):
    """What a FORM comes to at VALUES."""
    return sum_of([form[0]] + [times(x, value) for x, value in zip(form[1:], values)])


def sign_of(x):
    """-1, 0 or 1, as x is below, at or above 0."""
    return 0 if x[0] == 0 else (1 if x[0] > 0 else -1)


def line_of(form, slack):
    """The LINE that a FORM is at most 0, with so many times 1 of the unknown behind its own added."""
    terms = [(unknown, x) for unknown, x in enumerate(form[1:]) if x != ZERO]
    if slack:
        terms.append((len(form) - 1, ONE))
    return (tuple(terms), negative(form[0]))


def turned(form):
    return tuple([negative(x) for x in form])


def lines_of_side(form, side):
    """The LINES for a side: -1 below, 0 at, 1 above, None from 0."""
    if side is None:
        return [line_of(turned(form), False)]
    if side == 0:
        return [line_of(form, False), line_of(turned(form), False)]
    return [line_of(form if side < 0 else turned(form), True)]


class Region:
    """The VALUES where each of some pairs (form, side) is so, and more LINES are kept.

    How far the FORMS below and above 0 are from it at least is made as great
    as can be, up to 1: where it comes to more than 0, there are such VALUES.
    """

    def __init__(self, unknowns, pairs, more):
        self.unknowns = unknowns
        self.pairs = pairs
        self.lines = list(more)
        for form, side in pairs:
            self.lines.extend(lines_of_side(form, side))
        self.lines.append((((unknowns, ONE),), ONE))
        self.weighing = Weighing(self.lines, {unknowns: 1})

    def is_empty(self):
        return not self.weighing.has_answer() or not less(ZERO, self.weighing.top())

    def inside(self, values):
        """VALUES in it; those that it leaves open are these."""
        told = self.weighing.answer_now()
        return tuple([told.get(unknown, values[unknown]) for unknown in range(self.unknowns)])

    def weights(self):
        """For each pair of an empty one without more LINES its weight, by which the FORMS add up to no way."""
        if self.weighing.has_answer():
            told = list(self.weighing.bound_now())
        else:
            told = list(self.weighing.sum_now())
        found, at = [], 0
        for _, side in self.pairs:
            if side == 0:
                found.append(minus(told[at], told[at + 1]))
                at += 2
            else:
                found.append(told[at] if side < 0 else negative(told[at]))
                at += 1
        return tuple(found)


def is_never(path, weights):
    """Whether FORMS on these sides, times weights, add up to what can't be."""
    total = put_forms([form for form, _ in path], weights)
    if any([x != ZERO for x in total[1:]]):
        return False
    moved = any([side != 0 and weight != ZERO for (_, side), weight in zip(path, weights)])
    return less(ZERO, total[0]) or (total[0] == ZERO and moved)


def put_forms(forms, weights):
    """The FORMS, times their weights, added up place by place; () without any."""
    if not forms:
        return (ZERO,)
    many = len(forms[0])
    return tuple([sum_of([times(form[k], x) for form, x in zip(forms, weights)]) for k in range(many)])
