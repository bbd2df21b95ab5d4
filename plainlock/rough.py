"""Tables of rounded numbers: a guess at which rows matter, to be checked exactly."""

from plainlock.pivots import Table

# Numbers are kept in units of 1 / 2 ** depth; what is below 2 ** dust of these
# is taken for nothing, as rounding may have made it. Rows whose numbers are of
# very unlike sizes need more of both.
DEPTH = 320
DUST = 120


class Lost(ValueError):
    """So many pivots led nowhere, as can be if rounding leads in a circle."""


class Rough(Table):
    """A Table whose below stays 2 ** depth, all numbers in it rounded."""

    def __init__(self, rows, many):
        spread = max([_spread(row) for row in rows])
        self.figures = DEPTH + 3 * spread
        self.dust = 1 << (DUST + spread)
        Table.__init__(self, [_levelled(row, self.figures) for row in rows], many)
        self.below = 1 << self.figures
        self.left = 20 * (many + len(rows)) + 200

    def pivot(self, at, column):
        """basic[at] becomes loose, loose[column] basic."""
        self.left -= 1
        if self.left < 0:
            raise Lost()
        base = self.rows[at]
        turn = base[column]
        base = [(y << self.figures) // turn for y in base]
        base[column] = self.below * self.below // turn
        for k in range(len(self.rows)):
            self.rows[k] = self._moved(self.rows[k], base, column)
        if self.goal is not None:
            self.goal = self._moved(self.goal, base, column)
        if self.guide is not None:
            self.guide = self._moved(self.guide, base, column)
        self.rows[at] = base
        self.basic[at], self.loose[column] = self.loose[column], self.basic[at]

    def _moved(self, row, base, column):
        factor = row[column]
        if factor == 0:
            return row
        depth, dust = self.figures, self.dust
        new = [x - (factor * y >> depth) for x, y in zip(row, base)]
        new[column] = -(factor * base[column] >> depth)
        return [0 if -dust < x < dust else x for x in new]

    def best_in(self, column):
        """The place of the row with the largest number in this column; None without one."""
        found = None
        for k, row in enumerate(self.rows):
            size = abs(row[column])
            if size and (found is None or size > found[0]):
                found = (size, k)
        return None if found is None else found[1]


def _levelled(row, depth):
    """A row whose greatest number, but for its bound, is 1."""
    size = max([abs(x) for x in row[:-1]] + [0]) or 1
    return [(x << depth) // size for x in row]


def _spread(row):
    """By how many bits the numbers of a row, but for its bound, differ at most."""
    sizes = [abs(x).bit_length() for x in row[:-1] if x]
    return max(sizes) - min(sizes) if sizes else 0
