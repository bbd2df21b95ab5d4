"""LINES brought into a Table: an ANSWER or a SUM, and what a goal can come to."""

from math import gcd

from plainlock.fractions import fraction, times, whole
from plainlock.pivots import Table
from plainlock.rough import Lost, Rough

# With so many numbers in its rows a table is pivoted as it stands.
SMALL = 200


def unknowns_in(lines):
    """The unknowns that occur in LINES, ascending."""
    found = {}
    for terms, _ in lines:
        for unknown, _ in terms:
            found[unknown] = True
    return sorted(found)


def whole_line(line):
    """(numbers, scale): the tops of a LINE and its bound, times scale all whole."""
    terms, bound = line
    tops, below = whole([x for _, x in terms] + [bound])
    common = 0
    for top in tops:
        common = gcd(common, top)
    common = common or 1
    return [top // common for top in tops], fraction(below, common)


class Weighing:
    """LINES, and what a Table says of them; a goal is a dict of whole terms, or None.

    It says one of three: there is no ANSWER, and here is a SUM; there is one,
    and the goal has no greatest; there is one, with the goal as great as can be.
    """

    def __init__(self, lines, goal):
        self.names = unknowns_in(lines)
        self.rows = []
        self.scales = []
        self.goal = None
        if goal is not None:
            # What is in the goal alone has no end: it needs a column, too.
            self.names = sorted(self.names + [name for name in goal if name not in self.names])
            self.goal = [-goal.get(name, 0) for name in self.names] + [0]
        columns = {name: k for k, name in enumerate(self.names)}
        for line in lines:
            tops, scale = whole_line(line)
            row = [0] * (len(self.names) + 1)
            for (unknown, _), top in zip(line[0], tops):
                row[columns[unknown]] = top
            row[-1] = tops[-1]
            self.rows.append(row)
            self.scales.append(scale)
        self.told = weighed(self.rows, len(self.names), self.goal)

    def has_answer(self):
        return self.told.stuck is None

    def has_top(self):
        """Whether the goal has a greatest FRACTION."""
        return self.told.is_topped

    def answer_now(self):
        """A dict: for each unknown that occurs its FRACTION in an ANSWER."""
        table = self.told.table
        values = table.values_now()
        return {name: fraction(values[k], table.below) for k, name in enumerate(self.names)}

    def sum_now(self):
        """A SUM, where there is no ANSWER."""
        table, stuck = self.told.table, self.told.stuck
        weights = table.weights_in(table.rows[stuck])
        weights[table.basic[stuck] - table.many] = table.below
        return self._weights(weights, 1)

    def top(self):
        """The greatest FRACTION that the goal comes to."""
        table = self.told.table
        return fraction(table.goal[-1], table.below)

    def bound_now(self):
        """WEIGHTS by which the LINES are put together to goal at most top."""
        table = self.told.table
        return self._weights(table.weights_in(table.goal), table.below)

    def _weights(self, weights, below):
        """WEIGHTS of the LINES, from those of the rows of the table."""
        told = [(0, 1)] * len(self.rows)
        for place, weight in zip(self.told.places, weights):
            told[place] = times((weight, below), self.scales[place])
        return tuple(told)


class Outcome:
    """A Table of the rows at these places, pivoted until it tells something of all."""

    def __init__(self, rows, many, goal, places):
        table = Table([rows[place] for place in places], many)
        table.goal = goal
        table.free()
        self.places = places
        self.table = table
        self.stuck = table.settle()
        self.is_topped = self.stuck is None and goal is not None and table.rise()


def weighed(rows, many, goal):
    """The Outcome for whole rows that are at most their last numbers.

    A table of all rows tells all. In great ones the numbers grow long; so a
    rough table first says which few rows may decide it, and a table of these
    alone is taken if what it tells holds for all of the rows.
    """
    if len(rows) * many > SMALL:
        found = _from_guess(rows, many, goal)
        if found is not None:
            return found
    return Outcome(rows, many, goal, list(range(len(rows))))


def _from_guess(rows, many, goal):
    """The Outcome that a rough table leads to; None if it does not hold."""
    rough = Rough(rows, many)
    if goal is not None:
        rough.goal = [x * rough.below for x in goal]
    try:
        rough.free()
        stuck = rough.settle()
        is_topped = stuck is None and goal is not None and rough.rise()
    except Lost:
        return None
    places = [name - many for name in rough.loose if name >= many]
    if stuck is not None:
        places.append(rough.basic[stuck] - many)
        found = Outcome(rows, many, None, sorted(places))
        return None if found.stuck is None else found
    if goal is not None and not is_topped:
        return _from_climb(rows, many, goal)
    found = Outcome(rows, many, goal, sorted(places))
    if found.is_topped != is_topped or not _keeps_all(found.table, rows):
        return None
    return found


def _from_climb(rows, many, goal):
    """The Outcome where the goal has no greatest, as a way up without an end shows."""
    endless = [row[:-1] + [0] for row in rows] + [goal[:-1] + [-1]]
    if weighed(endless, many, None).stuck is not None:
        return None
    return weighed(rows, many, None)


def _keeps_all(table, rows):
    """Whether what the table's unknowns are now fits all of the rows."""
    values = table.values_now()[:table.many]
    for row in rows:
        total = 0
        for x, value in zip(row, values):
            if x:
                total += x * value
        if total > row[-1] * table.below:
            return False
    return True
