"""WORLDS, LOGS and VIEWS that tests draw, always the same for the same seed."""

from plainlock.fractions import ZERO, fraction, less, minus, plus, times
from plainlock.logs import LogReader, sent_to
from plainlock.views import is_world
from tests.drawing import a_clock, a_fraction, a_leg, fraction_between, some_lots

LEGS = {("client", "keeper"): 0, ("keeper", "client"): 1, ("client", "client"): 2, ("keeper", "keeper"): 3}


def a_world(draw, keepers=None, sure=0.4, **parts):
    """A WORLD; parts: what it is to have, by name."""
    many = keepers or draw.randint(1, 3)
    legs = []
    for _ in range(4):
        leg = a_leg(draw)
        legs.append(leg + (leg[1] is not None and draw.random() < sure,))
    first = a_fraction(draw, 0, 1)
    most = None if draw.random() < 0.05 else plus(first, a_fraction(draw, 0, 1))
    kept = tuple((draw.random() < 0.6, a_fraction(draw, 0, 3)) for _ in range(many))
    world = (parts.get("clocks", (a_clock(draw), a_clock(draw))), parts.get("legs", tuple(legs)), parts.get("kept", kept),
             parts.get("flight", (first, most)), some_lots(draw, many))
    assert is_world(world), world
    return world


class Teller:
    """ENTRIES of a WORLD that happen at moments that are drawn, so that these are a SCHEDULE of the LOG."""

    def __init__(self, draw, world, clients=3):
        self.draw, self.world = draw, world
        self.reader = LogReader(world)
        self.log, self.moments, self.moment = [], [], ZERO
        self.houses = [("client", c) for c in range(clients)] + [("keeper", k) for k in range(len(world[2]))]
        self.last = {}
        # Letters on their way: the place that sent them, and when they come at last.
        self.sure, self.loose = [], []

    def put(self, house, act):
        """Whether this can be the next ENTRY; it is then."""
        reading = a_fraction(self.draw, -5, 5)
        if house in self.last:
            at, ahead = self.last[house]
            slow, fast = self.world[0][0 if house[0] == "client" else 1]
            time = minus(self.moment, at)
            span = (plus(ahead, times(slow, time)), plus(ahead, times(fast, time)))
            reading = self.draw.choice((span[0], span[1], fraction_between(self.draw, span)))
        entry = (house, reading, act)
        if not self.reader.lets(entry):
            return False
        self.reader.add(entry)
        self.last[house] = (self.moment, reading)
        place = len(self.log)
        self.log.append(entry)
        self.moments.append(self.moment)
        other = sent_to(entry)
        if other is not None:
            least, most, sure = self.world[1][LEGS[(house[0], other[0])]]
            self.loose.append((place, other, least, most))
            if sure:
                self.sure.append((plus(self.moment, most), place, other))
        return True

    def go_to(self, moment):
        """Let the time pass; what is on a sure leg is heard ahead of its most."""
        while True:
            late = [letter for letter in self.sure if less(letter[0], moment)]
            if not late:
                break
            first = late[0]
            for letter in late:
                if less(letter[0], first[0]):
                    first = letter
            self.moment = first[0] if less(self.moment, first[0]) else self.moment
            self.hear(first[1], first[2])
        if less(self.moment, moment):
            self.moment = moment

    def hear(self, place, house):
        self.sure = [letter for letter in self.sure if letter[1] != place]
        assert self.put(house, ("hear", place))

    def deliver(self):
        """Some letter comes, most often one that nobody heard; at times one that comes once more."""
        heard = {act[1] for _, _, act in self.log if act[0] == "hear"}
        new = [letter for letter in self.loose if letter[0] not in heard]
        letter = self.draw.choice(self.loose)
        if new and self.draw.random() < 0.9:
            letter = new[0] if self.draw.random() < 0.7 else self.draw.choice(new)
        place, house, least, most = letter
        start = self.moments[place]
        if most is not None and less(plus(start, most), self.moment):
            self.loose.remove(letter)
            return
        if less(self.moment, plus(start, least)):
            self.go_to(plus(start, least))
        if most is None or not less(plus(start, most), self.moment):
            self.hear(place, house)

    def act(self, house):
        draw, roll = self.draw, self.draw.random()
        keeper = draw.randrange(len(self.world[2]))
        if house[0] == "client":
            number = (draw.choice((1, 1, 2)), house[1])
            if roll < 0.5:
                return ("ask", keeper, number)
            return ("release", keeper, number) if roll < 0.6 else self.tell(house) if roll < 0.72 else ("look",)
        pledge = self.reader.pledge(house[1])
        reading = self.last[house][1] if house in self.last else ZERO
        till = None if draw.random() < 0.3 else plus(reading, a_fraction(draw, 0, 8))
        call = None if draw.random() < 0.4 else a_fraction(draw, 0, 4)
        if pledge.wanted and roll < 0.6:
            return ("grant", draw.choice(sorted(pledge.wanted)), till, call)
        if pledge.newest is not None and roll < 0.8:
            return draw.choice((("renew", pledge.newest, till), ("call", pledge.newest)))
        return ("fall",) if roll < 0.86 else self.tell(house)

    def tell(self, house):
        return ("tell", self.draw.choice([other for other in self.houses if other != house]))

    def step(self):
        draw = self.draw
        if self.loose and draw.random() < 0.55:
            self.deliver()
        elif draw.random() < 0.1:
            self.go_to(plus(self.moment, a_fraction(draw, 0, 3)))
        else:
            house = draw.choice(self.houses)
            self.put(house, self.act(house))

    def run(self, many=30):
        for _ in range(20 * many):
            if len(self.log) >= many:
                break
            self.step()
        return tuple(self.log), tuple(self.moments)


def a_log(draw, world, many=30):
    """(log, moments): a LOG of the WORLD and a SCHEDULE of it."""
    return Teller(draw, world).run(many)


def view_first(log, moments, places):
    """The LOG and its moments with the ENTRIES at these places, those of a VIEW, ahead of the others."""
    order = list(places) + [place for place in range(len(log)) if place not in places]
    found = []
    for place in order:
        house, reading, act = log[place]
        if act[0] == "hear":
            act = ("hear", order.index(act[1]))
        found.append((house, reading, act))
    return tuple(found), tuple(moments[place] for place in order)
