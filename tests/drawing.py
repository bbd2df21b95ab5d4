"""PLANS, RUNS and FRACTIONS that tests draw, always the same for the same seed."""

from plainlock.errors import Broken
from plainlock.fractions import ZERO, fraction, less, minus, plus, times
from plainlock.locks import PlainLock, first_barred
from plainlock.plans import is_plan
from plainlock.runs import Machine

FAULTS = ("bare grant", "bare release", "forgets", "revives")


def a_fraction(draw, low, high, below=4):
    """A FRACTION from low to high."""
    d = draw.randint(1, below)
    return fraction(draw.randint(low * d, high * d), d)


def a_leg(draw, high=3):
    least = fraction(draw.randint(1, 4), draw.randint(1, 3))
    if draw.random() < 0.15:
        return (least, None)
    return (least, plus(least, a_fraction(draw, 0, high)))


def a_clock(draw):
    if draw.random() < 0.4:
        return ((1, 1), (1, 1))
    return (fraction(draw.randint(2, 4), 4), fraction(draw.randint(4, 6), 4))


def a_lot(draw, many):
    lot = tuple(k for k in range(many) if draw.random() < 0.6)
    return lot or (draw.randrange(many),)


def some_lots(draw, many, most=3):
    return tuple(sorted({a_lot(draw, many) for _ in range(draw.randint(1, most))}))


def a_keeper(draw):
    length = None if draw.random() < 0.25 else a_fraction(draw, 0, 12)
    return (length, draw.choice(("all", "all", "number")), a_fraction(draw, 0, 12))


def some_faults(draw, share=0.5):
    if draw.random() < share:
        return ()
    return tuple(sorted(draw.sample(FAULTS, draw.randint(1, 2))))


def a_plan(draw, keepers=None, stores=None, faults=None, **parts):
    """A PLAN; parts: what its library is to have, by name."""
    many = keepers or draw.randint(1, 4)
    sealed = parts.get("sealed", draw.random() < 0.3)
    if faults is None:
        faults = () if sealed else some_faults(draw)
    stop = None if draw.random() < 0.2 else a_fraction(draw, 0, 3)
    library = (a_fraction(draw, 0, 14), parts.get("counts", draw.choice(("sent", "taken"))), parts.get("stop", stop),
               parts.get("releases", draw.choice(("once", "waits"))), sealed)
    if stores is None:
        stores = tuple((draw.random() < 0.6, draw.random() < 0.7) for _ in range(draw.randint(1, 2)))
    plan = (some_lots(draw, many), tuple(a_keeper(draw) for _ in range(many)), (a_clock(draw), a_clock(draw)),
            tuple(a_leg(draw) for _ in range(4)), library, stores, faults)
    assert is_plan(plan), plan
    return plan


class Player:
    """Plays EVENTS of a PLAN, or of a pair, that are drawn; each of them such that it is let."""

    def __init__(self, draw, plan, clients=2, locks=1):
        self.draw, self.plan, self.locks = draw, plan, locks
        self.one = plan[0] if len(plan) == 2 else plan
        self.machine = Machine(plan)
        self.moment = ZERO
        self.last = {}
        self.clients = [("client", c) for c in range(clients)]
        self.loose = []
        self.known = 0

    def readings(self, house, moment):
        """What the reading of this house can be now: least, most; None if any."""
        if house not in self.last:
            return None
        slow, fast = self.one[2][0 if house[0] == "client" else 1]
        ahead, reading = self.last[house]
        time = minus(moment, ahead)
        return plus(reading, times(slow, time)), plus(reading, times(fast, time))

    def play(self, house, act):
        """Whether it could be played now."""
        reading = None
        if house[0] != "store":
            span = self.readings(house, self.moment)
            if span is None:
                reading = a_fraction(self.draw, -5, 5)
            else:
                reading = self.draw.choice((span[0], span[0], span[1], fraction_between(self.draw, span)))
        try:
            self.machine.play((house, self.moment, reading, act))
        except Broken:
            return False
        if reading is not None:
            self.last[house] = (self.moment, reading)
        number = len(self.machine.run()) - 1
        for other, letter in self.machine.letters()[number]:
            self.loose.append((number, self.moment, house, other))
        return True

    def act(self, house):
        """An act of a client that may be let."""
        lock = self.draw.randrange(self.locks)
        place = self.draw.randrange(len(self.one[5]))
        what = self.draw.choice((("get",), ("put", self.draw.randint(0, 3))))
        return self.draw.choice((
            ("ask", lock), ("ask", lock), ("again", lock), ("anew", lock), ("not now", lock), ("release", lock), ("look", lock),
            ("look", lock), ("deed", lock, place, what), ("deed", lock, place, what), ("send",), ("send",)))

    def step(self):
        if self.loose and self.draw.random() < 0.75:
            return self.deliver()
        if self.draw.random() < 0.15:
            self.moment = plus(self.moment, a_fraction(self.draw, 0, 3))
        roll = self.draw.random()
        if roll < 0.06:
            self.play(("keeper", self.draw.randrange(len(self.one[1]))), ("fall",))
        elif roll < 0.10:
            self.play(("store", self.draw.randrange(self.locks), self.draw.randrange(len(self.one[5]))), ("fall",))
        elif roll < 0.16 and len(self.plan) == 2:
            self.play(("keeper", self.draw.randrange(len(self.one[1]))), ("switch",))
        elif roll < 0.20 and len(self.plan) == 2:
            self.play(self.draw.choice(self.clients), ("start",))
        else:
            house = self.draw.choice(self.clients)
            act = self.act(house)
            if self.play(house, act) and act[0] == "deed" and self.draw.random() < 0.7:
                self.play(house, ("send",))

    def deliver(self):
        at = self.draw.randrange(len(self.loose))
        if self.draw.random() < 0.6:
            # one that has waited longest, lest all of them come too late
            starts = [start[0] / start[1] for _, start, _, _ in self.loose]
            at = starts.index(min(starts))
        number, start, sender, house = self.loose[at]
        kinds = {("client", "keeper"): 0, ("keeper", "client"): 1, ("client", "store"): 2, ("store", "client"): 3}
        least, most = self.one[3][kinds[(sender[0], house[0])]]
        moment = plus(start, least)
        if less(moment, self.moment):
            moment = self.moment
        self.moment = moment
        self.play(house, ("take", number))
        if self.draw.random() < 0.9:
            self.loose.pop(at)

    def run(self, many):
        for _ in range(many):
            self.step()
        return self.machine.run()


def fraction_between(draw, span):
    low, high = span
    return plus(low, times(minus(high, low), fraction(draw.randint(0, 4), 4)))


def a_run(draw, plan, many=40, clients=2, locks=1):
    """A RUN of plan."""
    return Player(draw, plan, clients, locks).run(many)


class Steps:
    """STEPS of the plain lock that are drawn, each of them such that it is let."""

    def __init__(self, draw, clients=3, locks=2, places=2):
        self.draw, self.clients, self.locks, self.places = draw, clients, locks, places
        self.steps, self.lock = [], PlainLock()
        self.serials = {}
        self.open = []

    def put(self, *steps):
        """Whether these STEPS are let; they are played then."""
        if first_barred(tuple(self.steps) + steps) is not None:
            return False
        for step in steps:
            self.lock.play(step)
        self.steps.extend(steps)
        return True

    def deed(self, client, lock):
        """The entry of a deed of what stands, or None."""
        number = self.lock.what_stands(client, lock)
        serial = self.lock.listener(client).serial + self.draw.randint(1, 3)
        what = self.draw.choice((("get",), ("put", self.draw.randint(-2, 2))))
        return number and ("deed", lock, self.draw.randrange(self.places), number, serial, what)

    def number(self, client, lock):
        """A NUMBER above all that were granted."""
        return (self.lock.granted.get(lock, (0, 0))[0] + self.draw.randint(0, 2), client)

    def quiet(self):
        draw, client, lock = self.draw, self.draw.randrange(self.clients), self.draw.randrange(self.locks)
        roll = draw.random()
        if roll < 0.35:
            number = self.number(client, lock)
            if self.lock.holder(lock) is not None and draw.random() < 0.4:
                self.put(("end", lock))
            return self.put((client, ("ask", lock))) if draw.random() < 0.6 else self.put(
                ("grant", lock, number), (client, ("told", lock, number)))
        if roll < 0.6:
            deed = self.deed(client, lock)
            if deed is None:
                return False
            answer = self.lock.integers.get(deed[1:3], 0)
            return self.put((client, deed, answer), (client, ("done",) + deed[1:3] + (deed[4], answer)))
        if roll < 0.66:
            return self.put(("end", lock))
        return self.put((client, draw.choice((("look", lock, True), ("look", lock, True), ("look", lock, False), ("released", lock),
                                              ("not held", lock, draw.randrange(self.places))))))

    def any(self):
        """A STEP of any kind."""
        draw, client, lock = self.draw, self.draw.randrange(self.clients), self.draw.randrange(self.locks)
        roll = draw.random()
        if roll < 0.15:
            return self.put((client, ("ask", lock)))
        if roll < 0.3:
            return self.put(("grant", lock, self.number(client, lock)))
        if roll < 0.45:
            number = self.lock.promised.get((client, lock))
            return number is not None and self.put((client, ("told", lock, number)))
        if roll < 0.5:
            return self.put(("end", lock))
        if roll < 0.7:
            deed = self.deed(client, lock)
            if deed is None:
                return False
            self.open.append((client, deed))
            if draw.random() < 0.5 and self.put((client, deed, self.lock.integers.get(deed[1:3], 0))):
                return True
            return self.put((client, deed))
        if roll < 0.85 and self.open:
            client, deed = draw.choice(self.open)
            answer = self.lock.done.get((client,) + deed[1:3] + (deed[4],))
            if answer is None:
                return self.put((client, ("stale",) + deed[1:3] + (deed[4],)))
            return self.put((client, ("done",) + deed[1:3] + (deed[4], answer)))
        return self.put((client, draw.choice((("look", lock, True), ("look", lock, False), ("released", lock), ("not now", lock),
                                              ("not held", lock, draw.randrange(self.places))))))


def a_quiet_list(draw, many=30, clients=3, locks=2, places=2):
    """A quiet LIST of about so many STEPS."""
    steps = Steps(draw, clients, locks, places)
    for _ in range(40 * many):
        if len(steps.steps) >= many:
            break
        steps.quiet()
    return tuple(steps.steps)


def a_list(draw, many=30, clients=3, locks=2, places=2):
    """A LIST of about so many STEPS."""
    steps = Steps(draw, clients, locks, places)
    for _ in range(40 * many):
        if len(steps.steps) >= many:
            break
        steps.any()
    return tuple(steps.steps)
