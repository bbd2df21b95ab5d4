"""Strangers: a LOG that looks the same as a VIEW, in which keepers let others in as early as can be."""

from plainlock.fractions import ONE, ZERO, greatest, less, minus, negative, plus, sum_of, times
from plainlock.logs import sent_to
from plainlock.rings import stretched


class Strangers:
    """The LOG of an Outlook and its SCHEDULE, to which strangers are added keeper by keeper."""

    def __init__(self, outlook):
        self.outlook = outlook
        self.log = list(outlook.view)
        # In this one each ENTRY is as far behind the last one as its AGE tells.
        self.moments = list(stretched(outlook.web, outlook.end, self._far()))
        self.client = _greatest_client(outlook.view)
        self.heard = [act[1] for _, _, act in outlook.view if act[0] == "hear"]

    def _far(self):
        """So long that whatever has no AGE is older than any FLOOR asks."""
        mosts = [_size(tie[2]) for tie in self.outlook.web[1]]
        floors = [ONE, self.outlook.slack or ZERO]
        for keeper in range(len(self.outlook.world[2])):
            if self.outlook.has_newest(keeper):
                for _, ending in self.outlook.endings(keeper):
                    floors.extend([number for _, number in ending])
        return sum_of(mosts + mosts + [_size(number) for number in floors])

    def let_in(self, keeper):
        """Add a stranger whom this keeper grants a NUMBER, by the first ENDING that has no FLOOR that is CUT."""
        at = self.outlook.cut_places(keeper).index(None)
        how, ending = self.outlook.endings(keeper)[at]
        moment = greatest([plus(self.moments[place], number) for place, number in ending])
        house, number = ("keeper", keeper), self.outlook.pledge(keeper).newest
        n = self.outlook.last_of(house)
        start = self.moments[n]
        acts = self._waiting(house, start, moment)
        if how == "fall":
            acts.insert(0, (start, ("fall",)))
        if how == "call":
            acts.append((self._call_moment(ending, start), ("call", number)))
        self.client += 1
        new = (1, self.client)
        least = self.outlook.world[1][0][0]
        self._add(minus(moment, least), (("client", self.client), ZERO, ("ask", keeper, new)))
        acts.extend([(moment, ("hear", len(self.log) - 1)), (moment, ("grant", new, None, None))])
        fast = self.outlook.world[0][1][1]
        for now, act in _in_order(acts):
            reading = plus(self.outlook.view[n][1], times(fast, minus(now, start)))
            self._add(now, (house, reading, act))

    def _add(self, moment, entry):
        self.moments.append(moment)
        self.log.append(entry)

    def _waiting(self, house, start, end):
        """What a keeper has to hear ahead of the moment end: letters on sure legs that nobody heard."""
        found = []
        for place, entry in enumerate(self.outlook.view):
            if sent_to(entry) != house or place in self.heard:
                continue
            least, most, sure = self.outlook.world[1][0 if entry[0][0] == "client" else 3]
            sent = self.moments[place]
            if sure and less(plus(sent, most), end):
                found.append((greatest([start, plus(sent, least)]), ("hear", place)))
        return found

    def _call_moment(self, ending, start):
        """When a keeper calls back at first, so that nobody has to have heard it."""
        if len(ending) == 1 or ending[1][0] == ending[0][0]:
            return start
        most = self.outlook.world[1][1][1]
        return greatest([start, minus(self.moments[ending[1][0]], most)])


def _size(x):
    return negative(x) if less(x, ZERO) else x


def _greatest_client(log):
    """The greatest client of which a LOG tells anything."""
    found = [0]
    for entry in log:
        for house in (entry[0], sent_to(entry)):
            if house is not None and house[0] == "client":
                found.append(house[1])
    return max(found)


def _in_order(acts):
    """acts by their moments, those of one moment in their order."""
    found = []
    for act in acts:
        at = len(found)
        while at > 0 and less(act[0], found[at - 1][0]):
            at -= 1
        found.insert(at, act)
    return found
