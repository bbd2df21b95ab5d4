"""Tables of whole numbers, by which LINES are answered, refuted and pushed."""


class Table:
    """Rows of whole numbers over one common number, below, which is above 0.

    Row k says: below * basic[k] + the sum of row[c] * loose[c] = row[-1].
    basic and loose name unknowns, from 0 to many - 1, and behind these the
    slacks of the first rows, which are never below 0. Where the loose ones are
    0, the basic ones are what the rows say. Each number in it is, but for its
    sign, a determinant of the first rows: so each division below leaves no
    rest, and the numbers stay short.
    """

    def __init__(self, rows, many):
        self.many = many
        self.below = 1
        self.rows = [list(row) for row in rows]
        self.basic = [many + k for k in range(len(rows))]
        self.loose = list(range(many))
        # Rows of unknowns that were made basic: an unknown has no bound of its
        # own, so that its row forbids nothing and is only read at the end.
        self.aside = []
        # What is pushed up, and what leads the way to where nothing is below 0.
        self.goal = None
        self.guide = None
        self.patience = 4 * (many + len(rows)) + 40

    def pivot(self, at, column):
        """basic[at] becomes loose, loose[column] basic."""
        base = self.rows[at]
        turn, sign = base[column], 1
        if turn < 0:
            base, turn, sign = [-x for x in base], -turn, -1
        for k in range(len(self.rows)):
            if k != at:
                self.rows[k] = self._turned(self.rows[k], base, column, turn, sign)
        if self.goal is not None:
            self.goal = self._turned(self.goal, base, column, turn, sign)
        if self.guide is not None:
            self.guide = self._turned(self.guide, base, column, turn, sign)
        self.rows[at] = list(base)
        self.rows[at][column] = sign * self.below
        self.basic[at], self.loose[column] = self.loose[column], self.basic[at]
        self.below = turn

    def _turned(self, row, base, column, turn, sign):
        """Another row behind this pivot."""
        below, factor = self.below, row[column]
        if factor == 0:
            return row if turn == below else [turn * x // below for x in row]
        if below == 1:
            new = [turn * x - factor * y for x, y in zip(row, base)]
        else:
            new = [(turn * x - factor * y) // below for x, y in zip(row, base)]
        new[column] = -sign * factor
        return new

    def free(self):
        """Make each unknown basic that occurs in a row, and set its row aside."""
        for column in range(self.many):
            at = self.best_in(column)
            if at is not None:
                self.pivot(at, column)
                row, name = self.rows.pop(at), self.basic.pop(at)
                self.aside.append((name, list(self.loose), row, self.below))

    def best_in(self, column):
        """The place of the row with the smallest number in this column, not 0; None without one."""
        found = None
        for k, row in enumerate(self.rows):
            size = abs(row[column])
            if size and (found is None or size < found[0]):
                found = (size, k)
        return None if found is None else found[1]

    def settle(self):
        """Pivot until nothing basic is below 0: None then.

        If nothing can come to that, the place of a row that shows it: below 0
        at its end, and nothing else in it below 0.
        """
        # By the guide, a sum of the loose ones that may only grow, no table
        # comes twice; where it stands still, the least names see to that.
        self.guide = [0 if name < self.many else self.below for name in self.loose] + [0]
        steps = 0
        while True:
            at = self._low_row(steps > self.patience)
            if at is None:
                self.guide = None
                return None
            column = self._way_up(self.rows[at])
            if column is None:
                return at
            self.pivot(at, column)
            steps += 1

    def _low_row(self, by_name):
        """A row whose basic one is below 0, of the least name or the lowest one."""
        found = None
        for k, row in enumerate(self.rows):
            if row[-1] < 0:
                rank = self.basic[k] if by_name else row[-1]
                if found is None or rank < found[0]:
                    found = (rank, k)
        return None if found is None else found[1]

    def _way_up(self, row):
        """The column by which the row's basic one grows at least cost to the guide."""
        best = None
        for column, name in enumerate(self.loose):
            x = row[column]
            if x < 0 and (best is None or self._is_cheaper(row, column, name, best)):
                best = column
        return best

    def _is_cheaper(self, row, column, name, best):
        cost = self.guide[column] * row[best] - self.guide[best] * row[column]
        return cost > 0 or (cost == 0 and name < self.loose[best])

    def rise(self):
        """Pivot until the goal is greatest, of a settled table; False if it has no greatest."""
        steps = 0
        for column, name in enumerate(self.loose):
            if name < self.many and self.goal[column]:
                return False
        while True:
            column = self._steepest(steps > self.patience)
            if column is None:
                return True
            at = self._first_stop(column)
            if at is None:
                return False
            self.pivot(at, column)
            steps += 1

    def _steepest(self, by_name):
        """A column by which the goal grows, of the least name or the steepest one."""
        best = None
        for column, name in enumerate(self.loose):
            x = self.goal[column]
            if x < 0:
                rank = name if by_name else x
                if best is None or rank < best[0]:
                    best = (rank, column)
        return None if best is None else best[1]

    def _first_stop(self, column):
        """The row that first comes to 0 if this column's one grows; None if none does."""
        best = None
        for k, row in enumerate(self.rows):
            if row[column] > 0:
                if best is None or self._is_nearer(k, column, best):
                    best = k
        return best

    def _is_nearer(self, k, column, best):
        row, other = self.rows[k], self.rows[best]
        gap = row[-1] * other[column] - other[-1] * row[column]
        return gap < 0 or (gap == 0 and self.basic[k] < self.basic[best])

    def values_now(self):
        """For each name what it is times below, where the loose ones are 0."""
        told = [0] * (self.many + len(self.rows) + len(self.aside))
        for k, row in enumerate(self.rows):
            told[self.basic[k]] = row[-1]
        for name, loose, row, below in reversed(self.aside):
            rest = row[-1] * self.below
            for other, x in zip(loose, row):
                if x:
                    rest -= x * told[other]
            told[name] = rest // below
        return told

    def weights_in(self, row):
        """For each first row what its slack is times in this row."""
        told = [0] * (len(self.rows) + len(self.aside))
        for name, x in zip(self.loose, row):
            if name >= self.many:
                told[name - self.many] = x
        return told
