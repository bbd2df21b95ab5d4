"""LOGS: what clients and keepers of a WORLD have seen and sent, read ENTRY by ENTRY."""

from plainlock.entries import is_lock_number
from plainlock.forms import is_count, is_place, is_row
from plainlock.fractions import is_fraction, is_from_zero, less
from plainlock.pledges import Pledge


def sent_to(entry):
    """The house to which an ENTRY sends a letter; None if it sends none."""
    act = entry[2]
    if act[0] in ("ask", "release"):
        return ("keeper", act[1])
    if act[0] in ("grant", "renew", "call"):
        return ("client", act[1][1])
    return act[1] if act[0] == "tell" else None


def is_entry(many, thing):
    """Whether thing has the form of an ENTRY, with so many keepers."""
    if not is_row(3, thing):
        return False
    house, reading, act = thing
    if not _is_house(many, house) or not is_fraction(reading) or not isinstance(act, tuple) or act == ():
        return False
    word, rest = act[0], act[1:]
    if word == "hear":
        return len(rest) == 1 and is_count(rest[0])
    if word == "tell":
        return len(rest) == 1 and _is_house(many, rest[0]) and rest[0] != house
    if house[0] == "keeper":
        return _is_keeper_act(word, rest)
    if word == "look":
        return rest == ()
    return word in ("ask", "release") and len(rest) == 2 and is_place(many, rest[0]) and is_lock_number(rest[1])


def _is_house(many, thing):
    if not is_row(2, thing):
        return False
    return (thing[0] == "client" and is_count(thing[1])) or (thing[0] == "keeper" and is_place(many, thing[1]))


def _is_keeper_act(word, rest):
    if word == "fall":
        return rest == ()
    if rest == () or not is_lock_number(rest[0]):
        return False
    if word == "call":
        return len(rest) == 1
    if word == "renew":
        return len(rest) == 2 and _is_till(rest[1])
    return word == "grant" and len(rest) == 3 and _is_till(rest[1]) and (rest[2] is None or is_from_zero(rest[2]))


def _is_till(thing):
    return thing is None or is_fraction(thing)


class LogReader:
    """A LOG read so far."""

    def __init__(self, world):
        self.world = world
        self.log = []
        # The last place of each house.
        self.last_place = {}
        self.pledges = {}
        # By client, keeper and NUMBER what was asked and released.
        self.asked = {}
        self.released = {}

    def pledge(self, keeper):
        """The Pledge of this keeper."""
        if keeper not in self.pledges:
            keeps, grace = self.world[2][keeper]
            self.pledges[keeper] = Pledge(keeps, grace)
        return self.pledges[keeper]

    def lets(self, entry):
        """Whether what has the form of an ENTRY may come next."""
        house, reading, act = entry
        if house in self.last_place and less(reading, self.log[self.last_place[house]][1]):
            return False
        if act[0] == "hear":
            return act[1] < len(self.log) and sent_to(self.log[act[1]]) == house
        if house[0] == "keeper":
            return self.pledge(house[1]).lets(reading, act)
        if act[0] == "ask":
            return act[2][1] == house[1]
        key = (house[1],) + act[1:]
        return act[0] != "release" or (key in self.asked and key not in self.released)

    def add(self, entry):
        """Read one more ENTRY."""
        house, reading, act = entry
        key = (house[1],) + act[1:]
        if house[0] == "keeper" and act[0] == "hear":
            self.pledge(house[1]).hears(self.log[act[1]][2])
        elif house[0] == "keeper":
            self.pledge(house[1]).does(len(self.log), reading, act)
        elif act[0] == "ask":
            self.asked[key] = True
        elif act[0] == "release":
            self.released[key] = True
        self.last_place[house] = len(self.log)
        self.log.append(entry)


def reader_of(world, log):
    """A LogReader that has read a LOG."""
    reader = LogReader(world)
    for entry in log:
        reader.add(entry)
    return reader


def had_at(log, place):
    """The set of pairs (keeper, number) of what the client of this ENTRY HAS there; () for a keeper's."""
    house = log[place][0]
    if house[0] != "client":
        return ()
    heard, released = {}, {}
    for other, _, act in log[:place]:
        if other != house:
            continue
        if act[0] == "release":
            released[act[1:]] = True
        if act[0] == "hear":
            sender, _, told = log[act[1]]
            if told[0] in ("grant", "renew"):
                heard[(sender[1], told[1])] = True
    return tuple(sorted([pair for pair in heard if pair not in released]))


def rested_on(log, place):
    """The set of places on which the ENTRY at this place rests."""
    ahead, last = [], {}
    for at, (house, _, _) in enumerate(log):
        ahead.append(last.get(house))
        last[house] = at
    found, waiting = {}, [place]
    while waiting:
        here = waiting.pop()
        if here is None or here in found:
            continue
        found[here] = True
        act = log[here][2]
        waiting.extend([ahead[here], act[1] if act[0] == "hear" else None])
    return tuple(sorted(found))
