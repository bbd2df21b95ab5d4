"""Standings: all to which the moves of a CAST can lead, and how."""

from plainlock.errors import TooMany

MANY = 5000
# The number of the PROGRAM ().
ENDED = 0


def next_ones(program):
    """The PROGRAMS as which a PROGRAM other than () can go on."""
    if program[0] in ("take", "free"):
        return [program[2]]
    cases = [case for _, case in program[3]] if program[0] == "get" else []
    return cases + [program[-2], program[-1]]


def parts_of(cast):
    """For each PROGRAM that can be left of one of the CAST its number, from 0; () is ENDED."""
    numbers, waiting = {(): ENDED}, list(reversed(cast))
    while waiting:
        program = waiting.pop()
        if program not in numbers:
            numbers[program] = len(numbers)
            waiting.extend(list(reversed(next_ones(program))))
    return numbers


def stores_of_parts(parts):
    """The set of the pairs (lock, place) of the deeds of such PROGRAMS."""
    return tuple(sorted(set([(part[1], part[2]) for part in parts if part != () and part[0] in ("put", "get")])))


def locks_of_parts(parts):
    """The set of the locks that occur in such PROGRAMS."""
    return tuple(sorted(set([part[1] for part in parts if part != ()])))


class Standings:
    """The standings of a CAST, in the order in which moves lead to them; TooMany() if there are more than 5,000.

    A standing is (lefts, stood, holders, integers): for each client the number
    of what is left of its PROGRAM and, for each lock, whether a number stands;
    for each lock its holder's client, or None; the integers of the STORES. A
    move is (client, act), act ("on",), ("take", lock), ("free", lock),
    ("put" or "get", lock, place, v, answer), ("not held", lock, place) or
    ("look", lock, answer); or ("end", lock).
    """

    def __init__(self, cast, lapse):
        numbers = parts_of(cast)
        self.parts = list(numbers)
        self.stores = stores_of_parts(self.parts)
        self.locks = locks_of_parts(self.parts)
        # For each PROGRAM the numbers of those as which it can go on.
        self.after = [[numbers[one] for one in next_ones(part)] if part != () else [] for part in self.parts]
        self.lapse = lapse
        nothing = (False,) * len(self.locks)
        start = (tuple([numbers[program] for program in cast]), (nothing,) * len(cast), (None,) * len(self.locks),
                 (0,) * len(self.stores))
        # For each standing how it was come to: the one ahead and the move.
        self.came = {start: None}
        self.rows = [start]
        self._walk()

    def _walk(self):
        at = 0
        while at < len(self.rows):
            here = self.rows[at]
            at += 1
            for move, there in self.moves(here):
                if there not in self.came:
                    self.came[there] = (here, move)
                    self.rows.append(there)
                    if len(self.rows) > MANY:
                        raise TooMany()

    def end_of(self, standing):
        """The END of a standing in which all PROGRAMS have ended; None of any other."""
        return standing[3] if all([left == ENDED for left in standing[0]]) else None

    def way_to(self, standing):
        """The moves that lead to a standing."""
        found = []
        while self.came[standing] is not None:
            standing, move = self.came[standing]
            found.append(move)
        found.reverse()
        return found

    def moves(self, standing):
        """Pairs of a move and the standing behind it."""
        lefts, stood, holders, integers = standing
        found = []
        for client, left in enumerate(lefts):
            if left != ENDED:
                found.extend(self._moves_of(standing, client, self.parts[left]))
        if self.lapse:
            for at, lock in enumerate(self.locks):
                if holders[at] is not None:
                    found.append((("end", lock), (lefts, stood, replaced_at(holders, at, None), integers)))
        return found

    def _moves_of(self, standing, client, program):
        """The move of a client, as a list; [] if it has none."""
        word, lock = program[:2]
        at = self.locks.index(lock)
        stands, holder = standing[1][client][at], standing[2][at]
        if word == "take" and not stands:
            return [] if holder is not None else [self._moved(standing, client, 0, ("take", lock), True, client)]
        if word == "take" or (word == "free" and not stands):
            return [self._moved(standing, client, 0, ("on",), stands, holder)]
        if word == "free":
            left_to = None if holder == client else holder
            return [self._moved(standing, client, 0, ("free", lock), False, left_to)]
        is_held = stands and holder == client
        if word == "look":
            act = ("look", lock, is_held)
            return [self._moved(standing, client, 0 if is_held else 1, act, is_held, holder)]
        if not is_held:
            act = ("not held", lock, program[2])
            return [self._moved(standing, client, len(next_ones(program)) - 1, act, False, holder)]
        return [self._deed(standing, client, program)]

    def _deed(self, standing, client, program):
        """The move of a deed that is done."""
        word, lock, place, given = program[:4]
        at = self.stores.index((lock, place))
        answer = standing[3][at]
        integers = replaced_at(standing[3], at, given) if word == "put" else standing[3]
        branch = len(next_ones(program)) - 2
        what = ("put", given) if word == "put" else ("get",)
        if word == "get":
            told = [case for case, _ in given]
            branch = told.index(answer) if answer in told else branch
        here = standing[:3] + (integers,)
        return self._moved(here, client, branch, ("deed", lock, place, what, answer), True, client)

    def _moved(self, standing, client, branch, act, stands, holder):
        """The move by which a client goes on at a branch, with what stands and who holds behind it."""
        lefts, stood, holders, integers = standing
        program = self.parts[lefts[client]]
        at = self.locks.index(program[1])
        own = replaced_at(stood[client], at, stands)
        there = (replaced_at(lefts, client, self.after[lefts[client]][branch]), replaced_at(stood, client, own),
                 replaced_at(holders, at, holder), integers)
        return ((client, act), there)


def replaced_at(row, place, new):
    """row with new at a place."""
    return row[:place] + (new,) + row[place + 1:]


def steps_of(moves):
    """The quiet LIST that plays these moves."""
    counts, numbers, serials, found = {}, {}, {}, []
    for move in moves:
        if move[0] == "end":
            found.append(move)
            continue
        client, act = move
        word = act[0]
        if word == "take":
            lock = act[1]
            counts[lock] = counts.get(lock, 0) + 1
            number = (counts[lock], client)
            numbers[(client, lock)] = number
            found.extend([(client, ("ask", lock)), ("grant", lock, number), (client, ("told", lock, number))])
        elif word == "free":
            found.append((client, ("released", act[1])))
        elif word == "deed":
            _, lock, place, what, answer = act
            serials[client] = serials.get(client, 0) + 1
            deed = ("deed", lock, place, numbers[(client, lock)], serials[client], what)
            found.extend([(client, deed, answer), (client, ("done", lock, place, serials[client], answer))])
        elif word != "on":
            found.append((client, act))
    return tuple(found)
