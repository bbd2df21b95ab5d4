"""FLOORS: ahead of what moment a keeper of a VIEW cannot grant anew, as far as its last ENTRY can know."""

from plainlock.errors import CanNot
from plainlock.fractions import ZERO, greatest, less, minus, over, plus
from plainlock.logs import had_at, reader_of
from plainlock.rings import farthest, schedule
from plainlock.views import web_of_log


def slack_of(world):
    """The SLACK of a WORLD; None if it has none."""
    legs, flight = world[1], world[3]
    if flight[1] is None:
        return None
    found = minus(plus(legs[1][0], flight[0]), flight[1])
    return found if less(ZERO, plus(found, legs[0][0])) else None


class Outlook:
    """A VIEW that ends with a client's ENTRY, as that client sees it; CanNot() of any other."""

    def __init__(self, world, view):
        if view[-1][0][0] != "client":
            raise CanNot()
        self.world = world
        self.view = view
        self.web = web_of_log(world, view)
        # Where it does not FIT this raises CanNot().
        schedule(self.web)
        self.end = len(view) - 1
        self.reader = reader_of(world, view)
        self.had = had_at(view, self.end)
        self.slack = slack_of(world)

    def pledge(self, keeper):
        return self.reader.pledge(keeper)

    def last_of(self, house):
        """The last place of a house; None without one."""
        return self.reader.last_place.get(house)

    def has_newest(self, keeper):
        """Whether the client HAS the NUMBER of this keeper's newest grant."""
        return (keeper, self.pledge(keeper).newest) in self.had

    def endings(self, keeper):
        """Pairs (how, ENDING) for a keeper with a grant, in their order."""
        pledge = self.pledge(keeper)
        n = self.last_of(("keeper", keeper))
        fast = self.world[0][1][1]
        found = []
        if pledge.is_ended():
            found.append(("free", ((n, ZERO),)))
        else:
            if pledge.till is not None:
                found.append(("till", (self._up_to(n, pledge.till),)))
            if pledge.call is not None:
                found.append(self._by_call(pledge, n))
            if not pledge.keeps:
                found.append(("fall", ((n, over(pledge.grace, fast)),)))
        if pledge.keeps or pledge.last_fall is None:
            return found
        quiet = self._up_to(n, plus(pledge.last_fall, pledge.grace))
        return [(how, ending + (quiet,)) for how, ending in found]

    def _up_to(self, n, reading):
        """The FLOOR that a keeper's next grant is at no lesser reading than this."""
        left = minus(reading, self.view[n][1])
        return (n, over(greatest([ZERO, left]), self.world[0][1][1]))

    def _by_call(self, pledge, n):
        """The ENDING by a call back, come or not."""
        if pledge.called is not None:
            return ("called", (self._up_to(n, plus(pledge.called, pledge.call)),))
        time = over(pledge.call, self.world[0][1][1])
        _, most, sure = self.world[1][1]
        p = self.last_of(("client", pledge.newest[1]))
        if not sure or p is None:
            return ("call", ((n, time),))
        return ("call", ((n, time), (p, minus(time, most))))

    def is_cut(self, floor):
        """Whether a FLOOR is CUT."""
        place, number = floor
        if self.slack is None:
            return False
        told = farthest(self.web, place, self.end)
        return told is not None and less(told, plus(number, self.slack))

    def cut_places(self, keeper):
        """For each ENDING the place in it of the first FLOOR that is CUT; None if none is."""
        found = []
        for _, ending in self.endings(keeper):
            cut = [j for j, floor in enumerate(ending) if self.is_cut(floor)]
            found.append(cut[0] if cut else None)
        return found

    def is_surely_with(self, keeper):
        """Whether this keeper is surely with the VIEW."""
        if self.slack is None or not self.has_newest(keeper):
            return False
        return None not in self.cut_places(keeper)

    def surely_with(self):
        """The set of the keepers surely with the VIEW."""
        return tuple([keeper for keeper in range(len(self.world[2])) if self.is_surely_with(keeper)])
