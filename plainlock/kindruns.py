"""KIND RUNS played step by step: what letters have with them, what stores know and refuse."""


class KindRun:
    """What was played of RULES, a triple (table, grants, carry)."""

    def __init__(self, rules):
        self._table, self._grants, self._carry = rules
        # The kind of each hold, what it has heard of each kind, and which have heard of a refusal.
        self._kinds = []
        self._heard = []
        self._refused = {}
        # Of each letter its hold, its store, what it has with it, what became of it, the answer,
        # and the letters of its hold that were heard ahead of its sending.
        self._holds = []
        self._stores = []
        self._borne = []
        self._outcomes = []
        self._answers = []
        self._earlier = []
        self._listened = {}
        # What each store knows of each kind, and its done letters.
        self._known = {}
        self._rows = {}

    def lets(self, step):
        """Whether this step, of the right form, may come next."""
        word, which = step[:2]
        if word == "tell":
            return which < len(self._table)
        if word == "send":
            return which < len(self._kinds) and which not in self._refused
        if which >= len(self._holds):
            return False
        if word == "take":
            return self._outcomes[which] is None
        return self._outcomes[which] is not None and which not in self._listened

    def play(self, step):
        """Play a step that may come next."""
        word, which = step[:2]
        if word == "tell":
            self._kinds.append(which)
            self._heard.append({})
        elif word == "send":
            self._send(which, step[2])
        elif word == "take":
            self._take(which)
        else:
            self._hear(which)

    def _send(self, hold, store):
        kind = self._kinds[hold]
        borne = {kind: hold}
        if self._grants:
            for elder in range(hold):
                _raise_to(borne, self._kinds[elder], elder)
        for own, other in self._carry:
            if own == kind and other in self._heard[hold]:
                _raise_to(borne, other, self._heard[hold][other])
        self._earlier.append([letter for letter in self._listened if self._holds[letter] == hold])
        self._holds.append(hold)
        self._stores.append(store)
        self._borne.append(borne)
        self._outcomes.append(None)
        self._answers.append(None)

    def _take(self, letter):
        hold, store = self._holds[letter], self._stores[letter]
        known = self._known.setdefault(store, {})
        bears = self._table[self._kinds[hold]]
        is_done = not any([known[kind] > hold and kind not in bears for kind in known])
        if is_done:
            for kind in self._borne[letter]:
                _raise_to(known, kind, self._borne[letter][kind])
            self._rows.setdefault(store, []).append(letter)
        self._outcomes[letter] = is_done
        self._answers[letter] = dict(known)

    def _hear(self, letter):
        hold = self._holds[letter]
        self._listened[letter] = True
        for kind in self._answers[letter]:
            _raise_to(self._heard[hold], kind, self._answers[letter][kind])
        if not self._outcomes[letter]:
            self._refused[hold] = True

    def many_holds(self):
        return len(self._kinds)

    def outcomes(self):
        """For each letter True, done, False, refused, or None, not taken."""
        return list(self._outcomes)

    def store_rows(self):
        """For each store, from 0 to the greatest, its done letters."""
        many = max(self._stores, default=-1) + 1
        return tuple([tuple(self._rows.get(store, [])) for store in range(many)])

    def marks(self):
        """All MARKS."""
        tells = [("tell", hold) for hold in range(len(self._kinds))]
        return tells + [("done", letter) for letter, outcome in enumerate(self._outcomes) if outcome]

    def hold_of(self, mark):
        return mark[1] if mark[0] == "tell" else self._holds[mark[1]]

    def conflicts(self):
        """The pairs (hold, other), other greater, that conflict."""
        holds = range(len(self._kinds))
        return [(hold, other) for other in holds for hold in range(other) if self._do_conflict(hold, other)]

    def _do_conflict(self, hold, other):
        return self._kinds[other] not in self._table[self._kinds[hold]]

    def behind(self, mark):
        """The MARKS ahead of which this one must be."""
        hold = self.hold_of(mark)
        later = range(hold + 1, len(self._kinds))
        found = [("tell", other) for other in later if self._do_conflict(hold, other)]
        letters = [letter for letter, outcome in enumerate(self._outcomes) if outcome]
        if mark[0] == "tell":
            return found + [("done", letter) for letter in letters if self._holds[letter] == hold]
        row = self._rows[self._stores[mark[1]]]
        behind = row[row.index(mark[1]) + 1:]
        return found + [("done", letter) for letter in letters if letter in behind or mark[1] in self._earlier[letter]]


def _raise_to(numbers, kind, number):
    """numbers tells at least this number of a kind from now on."""
    numbers[kind] = max(number, numbers.get(kind, number))
