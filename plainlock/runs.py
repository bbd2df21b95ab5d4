"""RUNS: EVENTS of clients, keepers and stores, played one behind the other."""

from plainlock.clients import Library
from plainlock.errors import Broken, CanNot, Unfit
from plainlock.forms import is_count, is_number, is_place, is_row, tupled
from plainlock.fractions import is_fraction, less, minus, times
from plainlock.keepers import Keeper
from plainlock.stores import Store

LOCK_ACTS = ("ask", "again", "anew", "not now", "release", "look")
# By which LEG a letter goes, by the house that takes it and the one that sent it.
LEG_OF = {("keeper", "client"): 0, ("client", "keeper"): 1, ("store", "client"): 2, ("client", "store"): 3}


def first_of(plan):
    """The PLAN, or the old one of a pair of PLANS."""
    return plan[0] if len(plan) == 2 else plan


def is_events(plan, thing):
    """Whether thing is EVENTS of plan."""
    if not isinstance(thing, tuple):
        return False
    return all([_is_event(first_of(plan), event) for event in thing])


def _is_event(plan, thing):
    if not is_row(4, thing):
        return False
    house, moment, reading, act = thing
    if not _is_house(plan, house) or not is_fraction(moment) or not isinstance(act, tuple) or act == ():
        return False
    if house[0] == "store":
        return reading is None and (_is_take(act) or act == ("fall",))
    if not is_fraction(reading):
        return False
    if house[0] == "keeper":
        return _is_take(act) or act in (("fall",), ("switch",))
    return _is_take(act) or act in (("send",), ("start",)) or _is_lock_act(plan, act)


def _is_house(plan, thing):
    if is_row(2, thing) and thing[0] == "client":
        return is_count(thing[1])
    if is_row(2, thing) and thing[0] == "keeper":
        return is_place(len(plan[1]), thing[1])
    return is_row(3, thing) and thing[0] == "store" and is_count(thing[1]) and is_place(len(plan[5]), thing[2])


def _is_take(act):
    return len(act) == 2 and act[0] == "take" and is_count(act[1])


def _is_lock_act(plan, act):
    """Whether act is an ACT at a lock."""
    if act[0] == "deed":
        return len(act) == 4 and is_count(act[1]) and is_place(len(plan[5]), act[2]) and is_what(act[3])
    return len(act) == 2 and act[0] in LOCK_ACTS and is_count(act[1])


def is_what(thing):
    """Whether thing says what a deed does."""
    return thing == ("get",) or (is_row(2, thing) and thing[0] == "put" and is_number(thing[1]))


def is_run(plan, thing):
    """Whether thing is a RUN of plan."""
    return is_events(plan, thing) and first_broken(plan, thing) is None


def first_broken(plan, events):
    """(number, word) of the first broken EVENT; None if there is none."""
    machine = Machine(plan)
    for number, event in enumerate(events):
        try:
            machine.play(event)
        except Broken as broken:
            return (number, broken.word)
    return None


def machine_of(plan, run):
    """A Machine that has played run; Unfit() unless that is a RUN of plan."""
    plan, run = tupled(plan), tupled(run)
    if not is_events(plan, run):
        raise Unfit()
    machine = Machine(plan)
    for event in run:
        try:
            machine.play(event)
        except Broken:
            raise Unfit() from None
    return machine


def sent(plan, run):
    """For each EVENT the tuple of its letters, pairs (house, letter); Unfit() unless run is a RUN."""
    return machine_of(plan, run).letters()


def telling(plan, run):
    """The TELLING of run; Unfit() unless that is a RUN."""
    return machine_of(plan, run).all_rows()


def merged(run, other):
    """The EVENTS of both RUNS by their moments, of equal ones those of run first."""
    sides = (tupled(run), tupled(other))
    # For each EVENT of both where it stands now.
    places = ([], [])
    found = []
    while len(found) < len(sides[0]) + len(sides[1]):
        one, two = sides[0][len(places[0]):], sides[1][len(places[1]):]
        side = 1 if one == () or (two != () and less(two[0][1], one[0][1])) else 0
        event = sides[side][len(places[side])]
        places[side].append(len(found))
        found.append(_renumbered(event, places[side]))
    return tuple(found)


def _renumbered(event, places):
    """The EVENT with the place that its letter's sending has now."""
    house, moment, reading, act = event
    if act[0] == "take":
        act = ("take", places[act[1]])
    return (house, moment, reading, act)


class Machine:
    """EVENTS of a PLAN, or of a pair (old, new), played one by one."""

    def __init__(self, plan):
        self._plan = tupled(plan)
        self._events = []
        # For each EVENT its letters, and pairs of a house and an entry of its ROW.
        self._letters = []
        self._entries = []
        # Each house that has an EVENT: itself, and the number of its last one.
        self._houses = {}
        self._newest = {}
        # How often a house has taken the letter of an EVENT.
        self._taken = {}
        # The clients that go by new, the keepers that turned to it.
        self._newer = {}

    def play(self, event):
        """Play one more; Broken(word) if it is broken."""
        event = tupled(event)
        house, moment, reading, act = event
        self._check_time(house, moment, reading)
        if act[0] == "take":
            self._check_letter(house, moment, act[1])
        if act in (("start",), ("switch",)):
            self._check_turn(house, act)
        stands = self._houses[house] if house in self._houses else self._new_house(house, act)
        if act == ("send",):
            self._check_send(house, stands, moment, reading)
        try:
            letters, entries = self._done(house, stands, reading, act)
        except CanNot:
            raise Broken("act") from None
        self._houses[house] = stands
        self._newest[house] = len(self._events)
        if act[0] == "take":
            key = (act[1], house)
            self._taken[key] = self._taken.get(key, 0) + 1
        self._events.append(event)
        self._letters.append(letters)
        self._entries.append(tuple([(house, entry) for entry in entries]))

    def run(self):
        """The RUN of what was played."""
        return tuple(self._events)

    def row(self, house):
        """The ROW of this house."""
        house = tupled(house)
        return tuple([entry for entries in self._entries for other, entry in entries if other == house])

    def record(self, keeper, lock):
        """That RECORD."""
        house = ("keeper", keeper)
        stands = self._houses[house] if house in self._houses else Keeper(first_of(self._plan), keeper)
        return stands.record(lock)

    def twin(self):
        """Another Machine that has played the same."""
        new = Machine(self._plan)
        new._events = list(self._events)
        new._letters = list(self._letters)
        new._entries = list(self._entries)
        new._houses = {house: self._houses[house].twin() for house in self._houses}
        new._newest = {house: self._newest[house] for house in self._newest}
        new._taken = {key: self._taken[key] for key in self._taken}
        new._newer = {house: True for house in self._newer}
        return new

    def all_rows(self):
        """The TELLING of what was played."""
        found = {}
        for entries in self._entries:
            for house, entry in entries:
                found.setdefault(house, []).append(entry)
        return tuple([(house, tuple(found[house])) for house in sorted(found)])

    def letters(self):
        """For each EVENT the tuple of its letters."""
        return tuple(self._letters)

    def entries(self):
        """For each EVENT the tuple of pairs of a house and what it added to its ROW."""
        return tuple(self._entries)

    def library(self, client):
        """The Library of this client as it stands now, which is not to be changed."""
        house = ("client", client)
        return self._houses[house] if house in self._houses else Library(first_of(self._plan), client)

    def _check_time(self, house, moment, reading):
        if self._events and less(moment, self._events[-1][1]):
            raise Broken("order")
        if reading is None or house not in self._newest:
            return
        ahead = self._events[self._newest[house]]
        time, growth = minus(moment, ahead[1]), minus(reading, ahead[2])
        slow, fast = first_of(self._plan)[2][0 if house[0] == "client" else 1]
        if less(growth, times(slow, time)) or less(times(fast, time), growth):
            raise Broken("clock")

    def _check_letter(self, house, moment, number):
        if number >= len(self._events) or self._letter(number, house) is None:
            raise Broken("letter")
        if self._taken.get((number, house), 0) >= 2:
            raise Broken("letter")
        sender, start = self._events[number][:2]
        least, most = first_of(self._plan)[3][LEG_OF[(house[0], sender[0])]]
        time = minus(moment, start)
        if less(time, least) or (most is not None and less(most, time)):
            raise Broken("leg")

    def _check_turn(self, house, act):
        """start and switch are let where a pair of PLANS is played, once."""
        is_late = house in self._newest if act == ("start",) else house in self._newer
        if len(self._plan) != 2 or is_late:
            raise Broken("act")

    def _check_send(self, house, stands, moment, reading):
        try:
            stands.twin().act(reading, ("send",))
        except CanNot:
            raise Broken("act") from None
        stop = self._plan_of(house)[4][2]
        let = self._events[self._newest[house]][1]
        if stop is not None and less(stop, minus(moment, let)):
            raise Broken("stop")

    def _plan_of(self, house):
        """The PLAN by which this client goes."""
        return self._plan[1] if house in self._newer else first_of(self._plan)

    def _letter(self, number, house):
        """The letter that EVENT number sent to this house; None for none."""
        for other, letter in self._letters[number]:
            if other == house:
                return letter
        return None

    def _new_house(self, house, act):
        """A house as new, at its first EVENT."""
        if house[0] == "keeper":
            return Keeper(first_of(self._plan), house[1])
        if house[0] == "store":
            return Store(first_of(self._plan), house[1], house[2])
        return Library(self._plan[1] if act == ("start",) else first_of(self._plan), house[1])

    def _done(self, house, stands, reading, act):
        """(letters, entries): what a house sends and adds to its ROW by this act."""
        if act == ("start",):
            self._newer[house] = True
            return ((), ())
        if house[0] == "client" and act[0] != "take":
            return stands.act(reading, act)
        if act == ("switch",):
            stands.turn(self._plan[1])
            self._newer[house] = True
            return ((), ())
        if act == ("fall",):
            _fall(house, stands, reading)
            return ((), ())
        letter = self._letter(act[1], house)
        if house[0] == "client":
            return stands.take(reading, self._events[act[1]][0], letter)
        return _answered(house, stands, reading, letter)


def _fall(house, stands, reading):
    if house[0] == "keeper":
        stands.fall(reading)
    else:
        stands.fall()


def _answered(house, stands, reading, letter):
    """(letters, entries): what a keeper or a store answers to a client's letter."""
    if house[0] == "keeper":
        client = ("client", letter[2][1])
        return (tuple([(client, answer) for answer in stands.take(reading, letter)]), ())
    answer, entry = stands.take(letter)
    client = ("client", letter[3][1])
    letters = () if answer is None else ((client, answer),)
    return (letters, () if entry is None else (entry,))
