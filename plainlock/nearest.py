"""Where a CONDITION holds: some VALUES, and those to which going costs least."""

from plainlock.fractions import ZERO, less, minus, negative, sum_of, times
from plainlock.regions import Region, lines_of_side, sign_of, value_of
from plainlock.sides import first_place, forced, reduced
from plainlock.weighing import Weighing

MINUS_ONE = (-1, 1)


def going_cost(values, goal, costs):
    """What going from values to goal costs; None if it is barred."""
    found = []
    for start, end, (up, down) in zip(values, goal, costs):
        growth = minus(end, start)
        if growth[0] > 0:
            found.append(None if up is None else times(up, growth))
        if growth[0] < 0:
            found.append(None if down is None else negative(times(down, growth)))
    return None if any([part is None for part in found]) else sum_of(found)


class Search:
    """A view of a CONDITION gone through, side by side of its FORMS.

    A node is a view of what is left to hold, and pairs (place, is_below) of
    what is known of the FORMS.
    """

    def __init__(self, unknowns, values, view, forms):
        self.unknowns = unknowns
        self.start = values
        self.nodes = [(view, ())]
        self.forms = forms

    def next_node(self):
        """The next node that may hold, with all known that has to be; None without one."""
        while self.nodes:
            view, path = self.nodes.pop()
            told = forced(view)
            while told:
                path = path + tuple(told)
                for place, is_below in told:
                    view = reduced(view, place, is_below)
                told = forced(view)
            if view is not False:
                return view, path
        return None

    def pairs_of(self, path):
        return tuple([(self.forms[place], -1 if is_below else None) for place, is_below in path])

    def split(self, view, path, values):
        """Go on with both sides of one more FORM, at first with that of values."""
        place = first_place(view)
        is_below = sign_of(value_of(self.forms[place], values)) < 0
        for side in (not is_below, is_below):
            self.nodes.append((reduced(view, place, side), path + ((place, side),)))

    def some(self):
        """Any VALUES at which the CONDITION holds; None without any."""
        node = self.next_node()
        while node is not None:
            view, path = node
            region = Region(self.unknowns, self.pairs_of(path), ())
            if not region.is_empty():
                values = region.inside(self.start)
                if view is True:
                    return values
                self.split(view, path, values)
            node = self.next_node()
        return None

    def nearest(self, costs):
        """(cost, border, inside): as a MEND has them; None if there is none."""
        barred = _barred_lines(self.start, costs)
        best = None
        node = self.next_node()
        while node is not None:
            view, path = node
            pairs = self.pairs_of(path)
            border = self._border(pairs, barred, costs)
            if border is not None:
                cost = going_cost(self.start, border, costs)
                if best is None or less(cost, best[0]):
                    region = Region(self.unknowns, pairs, barred)
                    if not region.is_empty() and view is True:
                        best = (cost, border, region.inside(self.start))
                    elif not region.is_empty():
                        self.split(view, path, border)
            node = self.next_node()
        return best

    def _border(self, pairs, barred, costs):
        """Where it costs least to be on these sides or at 0; None if that can't be."""
        lines = list(barred)
        for form, side in pairs:
            lines.extend(lines_of_side(form, None) if side is None else lines_of_side(form, 0)[:1])
        goal = {}
        for unknown, (up, down) in enumerate(costs):
            share = self.unknowns + unknown
            if up is not None or down is not None:
                goal[share] = -1
            if up is not None:
                lines.append(_cost_line(unknown, share, up, self.start[unknown]))
            if down is not None:
                lines.append(_cost_line(unknown, share, negative(down), self.start[unknown]))
        weighing = Weighing(lines, goal)
        if not weighing.has_answer():
            return None
        told = weighing.answer_now()
        return tuple([told.get(unknown, self.start[unknown]) for unknown in range(self.unknowns)])


def _cost_line(unknown, share, cost, value):
    """share is at least cost times what the unknown is above value."""
    if cost == ZERO:
        return (((share, MINUS_ONE),), ZERO)
    return (((unknown, cost), (share, MINUS_ONE)), times(cost, value))


def _barred_lines(values, costs):
    """LINES for the ways that are barred: no unknown grows, or falls."""
    found = []
    for unknown, (up, down) in enumerate(costs):
        if up is None:
            found.append((((unknown, (1, 1)),), values[unknown]))
        if down is None:
            found.append((((unknown, MINUS_ONE),), negative(values[unknown])))
    return found
