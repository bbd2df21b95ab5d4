"""Overtaking: a RUN of a CHANGE in which a client looks late, behind the telling of a greater number."""

from plainlock.courses import Course
from plainlock.errors import CanNot
from plainlock.fractions import greatest, least, minus, plus, sum_of, whole
from plainlock.mixes import ASK, FALL, GRANTED, LOOK, NEXT_ASK, OLD_ASK, START, SWITCH, TAKEN, TOLD, from_on
from plainlock.rings import schedule
from plainlock.ways import of_both

LESSER = ("client", 0)
GREATER = ("client", 1)
# The points that are the same for all keepers; the others each keeper has by itself.
SHARED = (OLD_ASK, START, TOLD, LOOK)
OWN = (SWITCH, ASK, TAKEN, FALL, GRANTED, NEXT_ASK)


def point_at(point, keeper):
    """The number of a point of a MIX in the WEB of all keepers."""
    if point in SHARED:
        return SHARED.index(point)
    return len(SHARED) + len(OWN) * keeper + OWN.index(point)


class Overtaking:
    """The lesser hold's client goes by a, the greater one's by b."""

    def __init__(self, mixing, waits, sides):
        self.mixing = mixing
        self.waits = waits
        self.a, self.b = sides
        self.keepers = list(range(len(mixing.old[1])))
        self.course = Course((mixing.old, mixing.new))
        self.ask_leg, self.grant_leg = mixing.ask_leg, mixing.grant_leg
        # How each keeper of both ends the lesser hold, and the moments of all points.
        self.ends = {}
        self.moments = ()

    def run(self, lot, other):
        """The RUN, by this open CROSSING of LOTS."""
        ties = self._ties_of(self.mixing.staged(), self.keepers) + self._ties_of(from_on(TOLD, LOOK, (0, 1)), [0])
        ties = ties + self._ties_of(self.mixing.lesser(self.a), lot) + self._ties_of(self.mixing.greater(self.b), other)
        self._find(ties, of_both(lot, other))
        self._start()
        asked = self._ask(LESSER, [self.at(ASK, keeper) for keeper in lot])
        told = plus(greatest([self.at(GRANTED, keeper) for keeper in other]), self.grant_leg[0])
        last = self._last_ask(told)
        self._ask(GREATER, [self.at(NEXT_ASK, keeper) for keeper in other] + [last])
        for keeper in self.keepers:
            self._keep(keeper, keeper in lot, keeper in other, last, told)
        for keeper in lot:
            self.course.fetch(self._believed(keeper), LESSER, "grant", ("keeper", keeper), self.at(TAKEN, keeper))
        for keeper in other:
            self.course.fetch(told, GREATER, "grant", ("keeper", keeper), self._renewed(keeper, last, told))
        self.course.put(self.at(LOOK, 0), LESSER, ("look", 0))
        return self.course.run()

    def at(self, point, keeper):
        """The moment of a point."""
        return self.moments[point_at(point, keeper)]

    def _ties_of(self, ties, keepers):
        """These TIES with the points of each of the keepers, less the waits."""
        found = []
        for keeper in keepers:
            for x, y, most, places in ties:
                wait = sum_of([self.waits[place] for place in places])
                found.append((point_at(x, keeper), point_at(y, keeper), minus(most, wait)))
        return found

    def _find(self, ties, common):
        """Find how each of these keepers ends the lesser hold, and moments for it all; CanNot() if there are none."""
        moments = schedule((point_at(OWN[-1], self.keepers[-1]) + 1, ties))
        if not common:
            look = moments[point_at(LOOK, 0)]
            self.moments = tuple([minus(moment, look) for moment in moments])
            return
        for how in self.mixing.hows(common[0]):
            self.ends[common[0]] = how
            try:
                self._find(ties + self._ties_of(self.mixing.ending(common[0], how), common[:1]), common[1:])
                return
            except CanNot:
                continue
        raise CanNot()

    def _start(self):
        for client, side in ((LESSER, self.a), (GREATER, self.b)):
            if side == "new":
                self.course.put(self.at(START, 0), client, ("start",))

    def _ask(self, client, moments):
        """The client asks at these moments, by one number."""
        word = "ask"
        for moment in _ascending(moments):
            self.course.put(moment, client, (word, 0))
            word = "again"

    def _last_ask(self, told):
        """When the greater hold's client asks by what it believes when it is told."""
        moment = minus(told, plus(self.ask_leg[0], self.grant_leg[0]))
        return least([moment, self.at(OLD_ASK, 0)]) if self.b == "old" else moment

    def _renewed(self, keeper, last, told):
        """When a keeper grants the ask sent last, so that the grant can be taken at told."""
        found = [self.at(GRANTED, keeper), plus(last, self.ask_leg[0])]
        if self.grant_leg[1] is not None:
            found.append(minus(told, self.grant_leg[1]))
        return greatest(found)

    def _believed(self, keeper):
        """When the lesser hold's client takes its grant: as late as can be."""
        if self.grant_leg[1] is None:
            return self.at(LOOK, keeper)
        return least([self.at(LOOK, keeper), plus(self.at(TAKEN, keeper), self.grant_leg[1])])

    def _keep(self, keeper, is_lesser, is_greater, last, told):
        """What a keeper does."""
        house, how = ("keeper", keeper), self.ends.get(keeper)
        is_old = how is not None and how[1] == "old"
        if not is_old:
            self.course.put(self.at(SWITCH, keeper), house, ("switch",))
        if is_lesser:
            self.course.fetch(self.at(TAKEN, keeper), house, "ask", LESSER, self.at(ASK, keeper))
        if how is not None and how[0] == "fall":
            self.course.put(self.at(FALL, keeper), house, ("fall",))
        if is_old:
            self.course.put(self.at(SWITCH, keeper), house, ("switch",))
        if is_greater:
            granted, asked = self.at(GRANTED, keeper), self.at(NEXT_ASK, keeper)
            renewed = self._renewed(keeper, last, told)
            self.course.fetch(granted, house, "ask", GREATER, asked)
            if (renewed, last) != (granted, asked):
                self.course.fetch(renewed, house, "ask", GREATER, last)


def _ascending(some):
    """FRACTIONS in their order, each once."""
    tops, below = whole(some)
    found = {top: x for top, x in zip(tops, some)}
    return [found[top] for top in sorted(found)]
