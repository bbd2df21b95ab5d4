"""Diaries: the LOG that a RUN leaves of one lock, ENTRY by ENTRY."""

from plainlock.runs import Machine


class Diary:
    """The ENTRIES of the EVENTS of a RUN, their moments, and where the client looked."""

    def __init__(self, plan, run, lock):
        self.lock = lock
        self.machine = Machine(plan)
        self.log = []
        self.moments = []
        # For each look its place, with the LOTS by which the client believes there.
        self.beliefs = {}
        # By an EVENT's number and a house what stands for the letter that it sent there.
        self.stands_for = {}
        for number, event in enumerate(run):
            self._add(number, event)

    def _add(self, number, event):
        """Play one more EVENT, and write what it did."""
        house, _, reading, act = event
        held = self.machine.record(house[1], self.lock)[1] if house[0] == "keeper" else None
        self.machine.play(event)
        if house[0] == "client":
            self._write_letters(number, event)
            self._write_look(number, event)
        if act == ("fall",) and house[0] == "keeper":
            self._write(event, act)
        place = self.stands_for.get((act[1], house)) if act[0] == "take" else None
        if place is not None:
            self._write(event, ("hear", place))
            if house[0] == "keeper" and self.log[place][2][0] == "ask":
                self._write_answer(number, event, held)

    def _write(self, event, act):
        self.log.append((event[0], event[2], act))
        self.moments.append(event[1])

    def _write_letters(self, number, event):
        """The asks and releases of the lock that a client sends."""
        for house, letter in self.machine.letters()[number]:
            if letter[0] in ("ask", "release") and letter[1] == self.lock:
                self.stands_for[(number, house)] = len(self.log)
                self._write(event, (letter[0], house[1], letter[2]))

    def _write_look(self, number, event):
        """A look that is True, also that of a deed that is let."""
        for house, entry in self.machine.entries()[number]:
            if house[0] == "client" and entry[1] == self.lock:
                if entry[0] == "deed" or (entry[0] == "look" and entry[2]):
                    library = self.machine.library(house[1])
                    self.beliefs[len(self.log)] = library.believed_lots(self.lock, event[2])
                    self._write(event, ("look",))

    def _write_answer(self, number, event, held):
        """What stands for a keeper's answer to an ask; held is who was the holder."""
        asked = self.log[self.log[-1][2][1]][2][2]
        for house, letter in self.machine.letters()[number]:
            self.stands_for[(number, house)] = len(self.log)
            until = self.machine.record(event[0][1], self.lock)[2]
            if letter[0] != "grant":
                self._write(event, ("tell", house))
            elif held == asked:
                self._write(event, ("renew", asked, until))
            else:
                self._write(event, ("grant", asked, until, None))
