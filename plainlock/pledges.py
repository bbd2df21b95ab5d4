"""What a keeper of a LOG has promised, and what it may do because of that."""

from plainlock.fractions import less, plus


class Pledge:
    """A keeper's ENTRIES read so far; keeps and grace are those of the WORLD."""

    def __init__(self, keeps, grace):
        self.keeps = keeps
        self.grace = grace
        # The NUMBERS of which it heard an ask, and those granted.
        self.wanted = {}
        self.granted = {}
        # The newest grant: its place, NUMBER and call, the till of its newest renew or else its own,
        # the reading of the first call back behind that, and what has ended it.
        self.place = None
        self.newest = None
        self.call = None
        self.till = None
        self.called = None
        self.was_released = False
        self.has_fallen = False
        self.last_fall = None

    def lets(self, reading, act):
        """Whether it may do this at this reading."""
        word = act[0]
        if word == "grant":
            return act[1] in self.wanted and act[1] not in self.granted and self._is_free(reading)
        if word == "renew":
            return act[1] == self.newest and not self.is_ended() and self._is_longer(act[2])
        if word == "call":
            return act[1] == self.newest and self.call is not None
        return True

    def is_ended(self):
        """Whether the newest grant was released, or is forgotten."""
        return self.was_released or (self.has_fallen and not self.keeps)

    def _is_free(self, reading):
        """Whether nothing promised stands against a grant at this reading."""
        if not self.keeps and self.last_fall is not None and less(reading, plus(self.last_fall, self.grace)):
            return False
        if self.newest is None or self.is_ended():
            return True
        if self.till is not None and not less(reading, self.till):
            return True
        return self.called is not None and not less(reading, plus(self.called, self.call))

    def _is_longer(self, till):
        """Whether a renew may promise this."""
        if till is None or self.till is None:
            return till is None and self.till is None
        return not less(till, self.till)

    def does(self, place, reading, act):
        """It does this, at this place of the LOG."""
        word = act[0]
        if word == "grant":
            _, self.newest, self.till, self.call = act
            self.granted[self.newest] = True
            self.place = place
            self.called = None
            self.was_released = False
            self.has_fallen = False
        elif word == "renew":
            self.till = act[2]
            self.called = None
        elif word == "call" and self.called is None:
            self.called = reading
        elif word == "fall":
            self.has_fallen = True
            self.last_fall = reading

    def hears(self, act):
        """It hears the letter of this act."""
        if act[0] == "ask":
            self.wanted[act[2]] = True
        if act[0] == "release" and act[2] == self.newest:
            self.was_released = True
