"""Stores: what a store does, by the deeds and seals that it has seen."""

from plainlock.forms import tupled


class Store:
    """One store of a lock of a PLAN.

    What it has seen is kept as a dict: for each NUMBER the greatest serial of
    its deeds, 0 if only a seal of it was seen.
    """

    def __init__(self, plan, lock, place):
        self._plan = tupled(plan)
        self._lock = lock
        self._place = place
        self._asks, self._keeps = self._plan[5][place]
        self._integer = 0
        self._seen = {}
        self._top = None

    def twin(self):
        """Another one that stands as this one does."""
        new = Store(self._plan, self._lock, self._place)
        new._asks = self._asks
        new._keeps = self._keeps
        new._integer = self._integer
        new._seen = {number: self._seen[number] for number in self._seen}
        new._top = self._top
        return new

    def take(self, letter):
        """(letter, entry): its answer to a deed or a seal, and the entry of its ROW; None for none."""
        letter = tupled(letter)
        number = letter[3]
        is_stale = self._asks and self._top is not None and number < self._top
        if letter[0] == "seal":
            self._see(number, 0)
            return (self._sealing(number, is_stale), None)
        serial, what = letter[4:]
        if self._seen.get(number, 0) >= serial:
            return (None, None)
        self._see(number, serial)
        if is_stale:
            return (("stale", self._lock, self._place, serial, self._top), None)
        answer = self._done(what)
        return (("done", self._lock, self._place, serial, answer), (number, serial, what, answer))

    def fall(self):
        """If it does not keep, it has seen nothing from now on."""
        if not self._keeps:
            self._seen = {}
            self._top = None

    def turn(self, asks, keeps):
        """It asks and keeps so from now on; what it has seen stands."""
        self._asks = asks
        self._keeps = keeps

    def value(self):
        """Its integer."""
        return self._integer

    def greatest(self):
        """The greatest NUMBER in what it has seen; None if there is none."""
        return self._top

    def _see(self, number, serial):
        self._seen[number] = max(serial, self._seen.get(number, 0))
        if self._top is None or self._top < number:
            self._top = number

    def _sealing(self, number, is_stale):
        if is_stale:
            return ("unsealed", self._lock, self._place, number, self._top)
        return ("sealed", self._lock, self._place, number)

    def _done(self, what):
        """Do what a deed says; the elder integer."""
        elder = self._integer
        if what[0] == "put":
            self._integer = what[1]
        return elder
