"""RUNS in which the beliefs of two clients overlap: client 0 has the lesser hold, client 1 the greater one."""

from plainlock.courses import Course
from plainlock.fractions import ZERO, greatest, least, minus, negative, over, plus, sum_of
from plainlock.plans import longest_belief

LESSER = ("client", 0)
GREATER = ("client", 1)


def meeting(plan, lot, other, place):
    """A RUN with a late look of client 0, or a late deed at this place of a store, unless that is None.

    lot and other are an open pair of LOTS of plan.
    """
    faults = plan[6]
    if "bare grant" in faults:
        return LateGrant(plan, lot, other, place).run()
    if "forgets" in faults:
        return Forgotten(plan, lot, other, place).run()
    if "revives" in faults:
        return Revived(plan, lot, other, place).run()
    return Ended(plan, lot, other, place).run()


class Meeting:
    """What all such RUNS have in common: who asks whom, and the deeds."""

    def __init__(self, plan, lot, other, place):
        self._plan = plan
        self.lot = lot
        self.other = other
        self.place = place
        self.common = [keeper for keeper in lot if keeper in other]
        self.least = [leg[0] for leg in plan[3]]
        # A grant comes at least so late behind its ask.
        self.round = plus(self.least[0], self.least[1])
        self.course = Course(plan)

    def run(self):
        self.play()
        return self.course.run()

    def number(self, client, count, moment):
        """The client asks, and again anew, up to a NUMBER of this count."""
        self.course.put(moment, client, ("ask", 0))
        for _ in range(count - 1):
            self.course.put(moment, client, ("anew", 0))

    def take_ask(self, keepers, client, start):
        """The keepers take the ask sent at start as soon as can be."""
        moment = plus(start, self.least[0])
        for keeper in keepers:
            self.course.fetch(moment, ("keeper", keeper), "ask", client, start)
        return moment

    def believes(self, keepers, client, start, moment):
        """The client takes at this moment the grants sent at start."""
        for keeper in self.last_first(keepers):
            self.course.fetch(moment, client, "grant", ("keeper", keeper), start)

    def last_first(self, keepers):
        """The keepers in an order in which, if it can be, only all of them are a LOT."""
        for keeper in keepers:
            rest = [one for one in keepers if one != keeper]
            if not any([all([one in rest for one in lot]) for lot in self._plan[0]]):
                return rest + [keeper]
        return list(keepers)

    def deed(self, client, moment, stop, late):
        """The client's deed, let at this moment, sent at stop, taken at late."""
        store = ("store", 0, self.place)
        self.course.put(moment, client, ("deed", 0, self.place, ("put", client[1])))
        self.course.put(stop, client, ("send",))
        self.course.fetch(late, store, "deed", client, stop)

    def looks(self, moment):
        """The lesser hold's late look, or its deed, as soon as that can be done."""
        if self.place is None:
            self.course.put(moment, LESSER, ("look", 0))
        else:
            self.deed(LESSER, moment, moment, plus(moment, self.least[2]))

    def deed_of_greater(self, moment):
        if self.place is not None:
            self.deed(GREATER, moment, moment, plus(moment, self.least[2]))


class LateGrant(Meeting):
    """A bare grant for a number let go comes late, and counts for the next one."""

    def play(self):
        self.course.put(ZERO, LESSER, ("ask", 0))
        self.course.put(ZERO, LESSER, ("not now", 0))
        self.number(GREATER, 3, ZERO)
        moment = self.take_ask(self.lot, LESSER, ZERO)
        for keeper in self.common:
            self.course.fetch(moment, ("keeper", keeper), "release", LESSER, ZERO)
        self.take_ask(self.other, GREATER, ZERO)
        # With an ask that is newest just now it believes, whatever the term is.
        self.course.put(self.round, GREATER, ("again", 0))
        self.believes(self.other, GREATER, moment, self.round)
        self.deed_of_greater(self.round)
        self.course.put(self.round, LESSER, ("ask", 0))
        self.believes(self.lot, LESSER, moment, self.round)
        self.looks(self.round)


class Forgotten(Meeting):
    """The keepers of both fall behind the greater grant, and then grant the lesser one."""

    def play(self):
        self.number(GREATER, 2, ZERO)
        moment = self.take_ask(self.other, GREATER, ZERO)
        for keeper in self.common:
            self.course.put(moment, ("keeper", keeper), ("fall",))
        self.believes(self.other, GREATER, moment, self.round)
        self.deed_of_greater(self.round)
        quiet = greatest([self._plan[1][keeper][2] for keeper in self.lot])
        start = over(quiet, self._plan[2][1][1])
        self.number(LESSER, 1, start)
        moment = self.take_ask(self.lot, LESSER, start)
        late = plus(moment, self.least[1])
        self.believes(self.lot, LESSER, moment, late)
        self.looks(late)


class Revived(Meeting):
    """The greater hold is released, and behind that the lesser one is granted."""

    def play(self):
        self.number(GREATER, 2, ZERO)
        moment = self.take_ask(self.other, GREATER, ZERO)
        self.believes(self.other, GREATER, moment, self.round)
        self.deed_of_greater(self.round)
        self.course.put(self.round, GREATER, ("release", 0))
        start = self.round
        if self.place is not None and self._plan[4][3] == "waits":
            taken = plus(start, self.least[2])
            start = plus(taken, self.least[3])
            self.course.fetch(start, GREATER, "done", ("store", 0, self.place), taken)
        moment = plus(start, self.least[0])
        for keeper in self.common:
            self.course.fetch(moment, ("keeper", keeper), "release", GREATER, start)
        self.number(LESSER, 1, start)
        self.take_ask(self.lot, LESSER, start)
        late = plus(moment, self.least[1])
        self.believes(self.lot, LESSER, moment, late)
        self.looks(late)


class Ended(Meeting):
    """The lesser hold lapses, is forgotten by a fall or ended by a release, as early as can be.

    Its look is at the moment 0, and all else as far from that as it may be.
    """

    def play(self):
        self.set_moments()
        for keeper in self.common:
            self.ends[keeper] = self.first_end(keeper)
        self.set_greater_moments()
        if self._plan[4][4]:
            self.tell_lesser_sealed()
        self.ask_lesser()
        if self.place is not None:
            self.late_deed()
        self.tell_greater()
        if self.place is None:
            self.course.put(ZERO, LESSER, ("look", 0))
        else:
            self.course.fetch(self.late, ("store", 0, self.place), "deed", LESSER, self.sent)

    def set_moments(self):
        """When the lesser hold is asked for, granted and believed, its deed sent and taken."""
        counts, stop = self._plan[4][1:3]
        belief = longest_belief(self._plan)
        if counts == "sent":
            self.asked = negative(belief)
            self.grants = plus(self.asked, self.least[0])
            self.believed = plus(self.grants, self.least[1])
        else:
            self.believed = negative(belief)
            self.grants = minus(self.believed, self.most_of(self._plan[3][1][1]))
            self.asked = minus(self.grants, self.least[0])
        self.sent = self.most_of(stop)
        self.late = plus(self.sent, self.most_of(self._plan[3][2][1]))
        # For each keeper of both when and how it ends the lesser hold.
        self.ends = {}

    def most_of(self, most):
        """most, or where that is None as much as all else can ask for."""
        if most is not None:
            return most
        keeps = [ZERO]
        for keeper in self.common:
            length, _, grace = self._plan[1][keeper]
            keeps.extend([grace] if length is None else [grace, length])
        deed, back = self.least[2:]
        return sum_of([over(greatest(keeps), self._plan[2][1][1]), self.round, deed, deed, back])

    def first_end(self, keeper):
        """(moment, how): the first moment at which this keeper can have ended the lesser hold."""
        length, record, grace = self._plan[1][keeper]
        fast = self._plan[2][1][1]
        found = []
        if length is not None:
            found.append((plus(self.grants, over(length, fast)), "lapse"))
        if record == "number":
            found.append((plus(self.grants, over(grace, fast)), "fall"))
        if "bare release" in self._plan[6]:
            found.append((self.grants, "elder release"))
        if self.place is not None and self._plan[4][3] == "once":
            found.append((plus(self.sent, self.least[0]), "release"))
        first = least([moment for moment, _ in found])
        return [end for end in found if end[0] == first][0]

    def set_greater_moments(self):
        """When the greater hold is granted, believed and told."""
        self.sealing = plus(self.least[2], self.least[3]) if self._plan[4][4] else ZERO
        if self.common:
            self.passed = greatest([self.ends[keeper][0] for keeper in self.common])
        else:
            self.passed = negative(plus(self.least[1], self.sealing))
        self.wanted = minus(self.passed, self.least[0])
        self.taken = plus(self.passed, self.least[1])
        self.told = plus(self.taken, self.sealing)

    def uses(self, how):
        return any([end[1] == how for end in self.ends.values()])

    def tell_lesser_sealed(self):
        """Have the lesser number told, well ahead of all: once it is sealed only its belief is renewed."""
        told = least([self.asked, self.wanted])
        start = minus(told, plus(self.round, self.sealing))
        self.number(LESSER, 1, start)
        moment = self.take_ask(self.lot, LESSER, start)
        self.believes(self.lot, LESSER, moment, plus(start, self.round))
        self.seal(self.lot, LESSER, plus(start, self.round))

    def seal(self, keepers, client, start):
        """The seals sent at start are answered, and the grants renewed, so that the number is told."""
        told = plus(start, self.sealing)
        taken = plus(start, self.least[2])
        stores = [("store", 0, place) for place in range(len(self._plan[5]))]
        for store in stores:
            self.course.fetch(taken, store, "seal", client, start)
        again = minus(told, self.round)
        self.course.put(again, client, ("again", 0))
        self.believes(keepers, client, self.take_ask(keepers, client, again), told)
        for store in stores:
            self.course.fetch(told, client, "sealed", store, taken)

    def ask_lesser(self):
        """The lesser hold as it is believed at its look, and what ends it right behind its grants."""
        if self._plan[4][4]:
            self.course.put(self.asked, LESSER, ("again", 0))
        else:
            if self.uses("elder release"):
                self.course.put(self.asked, LESSER, ("ask", 0))
                self.course.put(self.asked, LESSER, ("not now", 0))
            self.course.put(self.asked, LESSER, ("ask", 0))
        self.take_ask(self.lot, LESSER, self.asked)
        for keeper in self.common:
            house, how = ("keeper", keeper), self.ends[keeper][1]
            if how == "fall":
                self.course.put(self.grants, house, ("fall",))
            if how == "elder release":
                self.course.fetch(self.grants, house, "release", LESSER, self.asked)
        self.believes(self.lot, LESSER, self.grants, self.believed)

    def late_deed(self):
        """The deed of the lesser hold, and behind it, where some keeper needs that, its release."""
        self.course.put(ZERO, LESSER, ("deed", 0, self.place, ("put", 0)))
        self.course.put(self.sent, LESSER, ("send",))
        if self.uses("release"):
            self.course.put(self.sent, LESSER, ("release", 0))
            for keeper in self.common:
                if self.ends[keeper][1] == "release":
                    self.course.fetch(self.ends[keeper][0], ("keeper", keeper), "release", LESSER, self.sent)

    def tell_greater(self):
        """The greater number is asked for, granted, told, and its deed done."""
        self.number(GREATER, 3 if self.uses("elder release") else 2, self.wanted)
        self.take_ask(self.other, GREATER, self.wanted)
        self.believes(self.other, GREATER, self.passed, self.taken)
        if self._plan[4][4]:
            self.seal(self.other, GREATER, self.taken)
        self.deed_of_greater(self.told)
