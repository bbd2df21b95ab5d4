"""Staging: a RUN in which what a quiet LIST says happens, step by step."""

from plainlock.courses import Course, reading_at
from plainlock.fractions import ONE, ZERO, greatest, less, over, plus
from plainlock.keepers import free_from


def lot_that_frees(plan, locks):
    """A LOT that frees itself where so many locks occur, none being as one; None without one."""
    for lot in plan[0]:
        if all([_frees(plan[1][keeper], locks) for keeper in lot]):
            return lot
    return plan[0][0] if "forgets" in plan[6] else None


def _frees(kept, locks):
    return kept[0] is not None or (locks <= 1 and kept[1] == "number")


class Staging:
    """All clients ask one LOT; what is not to be believed any more is waited for."""

    def __init__(self, plan, locks):
        self.terms = plan
        self.lot = lot_that_frees(plan, locks) or plan[0][0]
        self.least = [leg[0] for leg in plan[3]]
        self.course = Course(plan)
        self.now = ZERO
        # For each lock the greatest number told.
        self.newest = {}

    def run_of(self, steps):
        for step in steps:
            if step[0] == "grant":
                self.tell(("client", step[2][1]), step[1])
            elif step[0] != "end":
                self.act(("client", step[0]), step[1])
        return self.course.run()

    def act(self, client, entry):
        """Have the client hear this entry, but for told and done, which have come by themselves."""
        word, lock = entry[:2]
        if word == "ask":
            self.do(client, ("ask", lock))
        elif word == "released":
            self.do(client, ("release", lock))
            self.take_release(client)
        elif word == "look" and entry[2]:
            self.believe(client, lock)
            self.do(client, ("look", lock))
        elif word == "look":
            self.stop_to_believe(client, lock, ("look", lock))
        elif word == "not held":
            self.stop_to_believe(client, lock, ("deed", lock, entry[2], ("get",)))
        elif word == "deed":
            self.believe(client, lock)
            self.do_deed(client, ("deed", lock, entry[2], entry[5]))

    def do(self, house, act):
        """A house does this now."""
        self.course.put(self.now, house, act)
        self.course.play()

    def wait(self, time):
        self.now = plus(self.now, time)

    def library(self, client):
        return self.course.machine.library(client[1])

    def reading(self, house):
        return reading_at(self.terms, house, self.now)

    def tell(self, client, lock):
        """The open ask of this client is granted and told, by a number above all that were told."""
        self.free(lock)
        acts = 0
        while lock in self.newest and self.library(client).number(lock) <= self.newest[lock]:
            self.do(client, ("anew", lock))
            acts += 1
        if acts == 0:
            self.do(client, ("again", lock))
        start = self.now
        self.grant(client, lock, start)
        told = plus(start, plus(self.least[0], self.least[1]))
        if self.terms[4][4]:
            told = self.seal(client, lock, told)
        self.course.play()
        self.now = told
        self.newest[lock] = self.library(client).number(lock)

    def free(self, lock):
        """Wait till each keeper of the LOT can grant a greater number, or have it fall for that."""
        ends = [self.now]
        for keeper in self.lot:
            house = ("keeper", keeper)
            record = self.course.machine.record(keeper, lock)
            if record[1] is not None and record[2] is None:
                self.do(house, ("fall",))
                record = self.course.machine.record(keeper, lock)
            reading = free_from(self.terms, keeper, record, self.reading(house))
            ends.append(over(reading, self.terms[2][1][1]))
        self.now = greatest(ends)

    def grant(self, client, lock, start):
        """The LOT grants the ask sent at start, as soon as can be; the client takes the grants."""
        moment = plus(start, self.least[0])
        told = plus(moment, self.least[1])
        houses = [("keeper", keeper) for keeper in self.lot]
        for house in houses:
            self.course.fetch(moment, house, "ask", client, start)
        if "bare grant" in self.terms[6]:
            # A bare grant counts for the newest ask: with one from just now it is believed.
            self.course.put(told, client, ("again", lock))
        for house in houses:
            self.course.fetch(told, client, "grant", house, moment)

    def seal(self, client, lock, start):
        """The seals sent at start are answered and the grants renewed; the moment of that."""
        taken = plus(start, self.least[2])
        told = plus(taken, self.least[3])
        stores = [("store", lock, place) for place in range(len(self.terms[5]))]
        for store in stores:
            self.course.fetch(taken, store, "seal", client, start)
        # As long ahead of told as the first ask was ahead of the seals.
        again = plus(self.now, plus(self.least[2], self.least[3]))
        self.course.put(again, client, ("again", lock))
        self.grant(client, lock, again)
        for store in stores:
            self.course.fetch(told, client, "sealed", store, taken)
        return told

    def believe(self, client, lock):
        """Have the client believe now, by new grants if the last ones do not last."""
        if less(self.library(client).last(lock), self.reading(client)):
            start = self.now
            self.do(client, ("again", lock))
            self.grant(client, lock, start)
            self.course.play()
            self.wait(plus(self.least[0], self.least[1]))

    def stop_to_believe(self, client, lock, act):
        """The client does this when it does not believe any more, if a number stands for it."""
        library = self.library(client)
        if not library.stands(lock):
            self.do(client, act)
            return
        end = over(library.last(lock), self.terms[2][0][0])
        self.now = greatest([self.now, plus(end, ONE)])
        self.do(client, act)
        self.take_release(client)

    def take_release(self, client):
        """The keepers of the LOT take the release that the client has just sent."""
        start = self.now
        self.wait(self.least[0])
        for keeper in self.lot:
            self.course.fetch(self.now, ("keeper", keeper), "release", client, start)
        self.course.play()

    def do_deed(self, client, act):
        """A deed is let, sent, done and answered."""
        store = ("store",) + act[1:3]
        self.do(client, act)
        self.do(client, ("send",))
        start = self.now
        self.wait(self.least[2])
        taken = self.now
        self.course.fetch(taken, store, "deed", client, start)
        self.wait(self.least[3])
        self.course.fetch(self.now, client, "done", store, taken)
        self.course.play()

    def do_twice(self, client, act):
        """A deed is let and sent, done, and done again behind a fall of its store."""
        store = ("store",) + act[1:3]
        self.do(client, act)
        self.do(client, ("send",))
        start = self.now
        self.wait(self.least[2])
        self.course.fetch(self.now, store, "deed", client, start)
        self.course.put(self.now, store, ("fall",))
        self.course.fetch(self.now, store, "deed", client, start)
        self.course.play()
