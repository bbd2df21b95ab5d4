"""What a program hears, entry by entry: what stands for it, and what can come next."""


class Listener:
    """One client's ROW read so far."""

    def __init__(self, client):
        self.client = client
        # By locks: whether an ask is open, the number that stands, the last one told.
        self.asking = {}
        self.standing = {}
        self.newest = {}
        self.serial = 0
        # The deeds by (lock, place, serial), each (number, what), and which of them are answered.
        self.deeds = {}
        self.answered = {}

    def fits(self, entry):
        """Whether this entry may come next, but for what stores say of it."""
        word, lock = entry[:2]
        if word == "ask":
            return lock not in self.asking and lock not in self.standing
        if word == "told":
            number = entry[2]
            is_new = lock not in self.newest or self.newest[lock] < number
            return lock in self.asking and number[1] == self.client and is_new
        if word == "not now":
            return lock in self.asking
        if word == "released":
            return lock in self.standing
        if word == "look":
            return not entry[2] or lock in self.standing
        if word == "deed":
            return self.standing.get(lock) == entry[3] and entry[4] > self.serial
        if word == "not held":
            return True
        return entry[1:4] in self.deeds and entry[1:4] not in self.answered

    def hear(self, entry):
        """Read one more entry, be it right or not."""
        word, lock = entry[:2]
        if word == "ask":
            self.asking[lock] = True
        elif word == "told":
            self._close(lock)
            self.standing[lock] = entry[2]
            self.newest[lock] = entry[2]
        elif word == "not now":
            self._close(lock)
        elif word == "released" or word == "not held" or (word == "look" and not entry[2]):
            self._fall(lock)
        elif word == "deed":
            self.serial = entry[4]
            self.deeds[(lock, entry[2], entry[4])] = (entry[3], entry[5])
        elif word in ("done", "stale"):
            self.answered[entry[1:4]] = True
            if word == "stale" and self.number_of(entry) == self.standing.get(lock):
                self._fall(lock)

    def number_of(self, answer):
        """The number of the deed that is answered; None if there is no such deed."""
        deed = self.deeds.get(answer[1:4])
        return None if deed is None else deed[0]

    def _close(self, lock):
        if lock in self.asking:
            self.asking.pop(lock)

    def _fall(self, lock):
        if lock in self.standing:
            self.standing.pop(lock)


def first_misfit(telling):
    """(house, place) of the first entry that is not right, house by house; None if all are."""
    rows = {house: row for house, row in telling}
    for house, row in telling:
        place = _misfit_of_client(rows, house, row) if house[0] == "client" else _misfit_of_store(rows, house, row)
        if place is not None:
            return (house, place)
    return None


def _misfit_of_client(rows, house, row):
    listener = Listener(house[1])
    for place, entry in enumerate(row):
        if not listener.fits(entry):
            return place
        if entry[0] in ("done", "stale"):
            number, what = listener.deeds[entry[1:4]]
            story = rows.get(("store", entry[1], entry[2]), ())
            if entry[0] == "done" and (number, entry[3], what, entry[4]) not in story:
                return place
            if entry[0] == "stale" and (number, entry[3], what) in [done[:3] for done in story]:
                return place
        listener.hear(entry)
    return None


def _misfit_of_store(rows, house, row):
    _, lock, place = house
    integer, seen = 0, {}
    for at, (number, serial, what, answer) in enumerate(row):
        deed = ("deed", lock, place, number, serial, what)
        is_sent = deed in rows.get(("client", number[1]), ())
        if not is_sent or (number, serial) in seen or answer != integer:
            return at
        seen[(number, serial)] = True
        if what[0] == "put":
            integer = what[1]
    return None
