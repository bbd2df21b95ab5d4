"""NODES of a TELLING, and which of them is AHEAD of which."""

from plainlock.entries import is_node_form
from plainlock.graphs import least_order, shortest_way
from plainlock.listeners import Listener
from plainlock.locks import with_ends


class Nodes:
    """The NODES of a TELLING that fits, by numbers.

    named tells for each number its NODE, places for each NODE its number,
    later for each number those of which it is AHEAD, as keys of a dict.
    """

    def __init__(self, telling):
        self.named = []
        self.places = {}
        self.later = {}
        self.heard = {}
        # The answer of each done deed, by its number.
        self.answers = {}
        # For each lock pairs (number, place): the grants; and the looks and deeds under a number.
        self.grants = {}
        self.under = {}
        self._name(telling)
        deeds = {}
        for house, row in telling:
            if house[0] == "client":
                self._link_client(house[1], row, deeds)
        for house, row in telling:
            if house[0] == "store":
                self._link_store(house, row, deeds)
        self._link_grants()

    def _name(self, telling):
        for house, row in telling:
            if house[0] == "client":
                for place, entry in enumerate(row):
                    self._add((house[1], place), entry)
        for house, row in telling:
            if house[0] == "client":
                for entry in row:
                    if entry[0] == "told":
                        at = self._add(("grant", entry[1], entry[2]), None)
                        self.grants.setdefault(entry[1], []).append((entry[2], at))

    def _add(self, node, entry):
        at = len(self.named)
        self.named.append(node)
        self.places[node] = at
        self.later[at] = {}
        self.heard[at] = entry
        return at

    def put_ahead(self, one, other):
        self.later[one][other] = True

    def _link_client(self, client, row, deeds):
        """What stands ahead in one ROW, asks ahead of grants, and these of what is told."""
        listener, asks = Listener(client), {}
        for place, entry in enumerate(row):
            here = self.places[(client, place)]
            for other in range(place + 1, len(row)):
                self.put_ahead(here, self.places[(client, other)])
            word, lock = entry[:2]
            if word == "ask":
                asks[lock] = here
            if word == "told":
                grant = self.places[("grant", lock, entry[2])]
                self.put_ahead(asks[lock], grant)
                self.put_ahead(grant, here)
            if word == "look" and entry[2]:
                self.under.setdefault(lock, []).append((listener.standing[lock], here))
            if word == "deed":
                deeds[entry[1:5]] = here
            listener.hear(entry)

    def _link_store(self, house, row, deeds):
        """The done deeds of one store in their order."""
        _, lock, place = house
        passed = []
        for number, serial, _, answer in row:
            here = deeds[(lock, place, number, serial)]
            for other in passed:
                self.put_ahead(other, here)
            passed.append(here)
            self.answers[here] = answer
            self.under.setdefault(lock, []).append((number, here))

    def _link_grants(self):
        """What is of a number ahead of the grants of greater ones."""
        for lock in self.grants:
            for number, here in self.grants[lock] + self.under.get(lock, []):
                for other, grant in self.grants[lock]:
                    if other > number:
                        self.put_ahead(here, grant)

    def places_of(self, thing):
        """The numbers of a tuple of NODES; None if thing is none."""
        if not isinstance(thing, tuple):
            return None
        found = []
        for node in thing:
            if not is_node_form(node) or node not in self.places:
                return None
            found.append(self.places[node])
        return found

    def steps(self):
        """A LIST in which each NODE comes ahead of what it is put ahead of; None if there is none."""
        order = least_order(self.later)
        if order is None:
            return None
        return with_ends([self._step(place) for place in order])

    def _step(self, place):
        node, entry = self.named[place], self.heard[place]
        if entry is None:
            return node
        if place in self.answers:
            return (node[0], entry, self.answers[place])
        return (node[0], entry)

    def way(self, start, goal):
        """The fewest NODES that lead from start to goal, two at least; None if none do."""
        return shortest_way(self.later, start, goal)

    def least_circle(self):
        """The fewest NODES each AHEAD of the next, the last of the first; None without any."""
        best = None
        for place in self.later:
            way = self.way(place, place)
            if way is not None and (best is None or len(way) - 1 < len(best)):
                best = way[:-1]
        return best
