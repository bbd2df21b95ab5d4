"""The plain lock: one list of steps, no clock, no letter, no fall."""

from plainlock.listeners import Listener


class PlainLock:
    """What the steps so far have come to: holders, integers, and what each client heard."""

    def __init__(self):
        self.holders = {}
        self.granted = {}
        # For each client and lock with an ask open what was granted for it.
        self.promised = {}
        self.listeners = {}
        self.integers = {}
        # The done deeds by (client, lock, place, serial), each with its answer.
        self.done = {}

    def holder(self, lock):
        return self.holders.get(lock)

    def listener(self, client):
        if client not in self.listeners:
            self.listeners[client] = Listener(client)
        return self.listeners[client]

    def what_stands(self, client, lock):
        """The number that stands for this client; None without one."""
        return self.listener(client).standing.get(lock)

    def lets(self, step):
        """Whether this STEP may come next."""
        if step[0] == "end":
            return self.holder(step[1]) is not None
        if step[0] == "grant":
            return self._lets_grant(step[1], step[2])
        client, entry = step[:2]
        if not self.listener(client).fits(entry):
            return False
        word, lock = entry[:2]
        holder, stands = self.holder(lock), self.what_stands(client, lock)
        if word == "told":
            return self.promised.get((client, lock)) == entry[2]
        if word == "look" and entry[2]:
            return holder == stands
        if word in ("look", "not held"):
            return stands is None or holder != stands
        if word == "deed":
            return len(step) == 2 or (holder == entry[3] and self.integers.get(entry[1:3], 0) == step[2])
        if word == "done":
            return self.done.get((client,) + entry[1:4]) == entry[4]
        if word == "stale":
            return (client,) + entry[1:4] not in self.done and holder != self.listener(client).number_of(entry)
        return True

    def _lets_grant(self, lock, number):
        client = number[1]
        if self.holder(lock) is not None or (lock in self.granted and number <= self.granted[lock]):
            return False
        return lock in self.listener(client).asking and (client, lock) not in self.promised

    def play(self, step):
        """Play one more STEP, be it let or not."""
        if step[0] == "end":
            self.holders[step[1]] = None
        elif step[0] == "grant":
            _, lock, number = step
            self.holders[lock] = number
            self.granted[lock] = number
            self.promised[(number[1], lock)] = number
        else:
            self._play_entry(step)

    def _play_entry(self, step):
        client, entry = step[:2]
        word, lock = entry[:2]
        if word == "released":
            self._leave(lock, self.what_stands(client, lock))
        if word == "not now":
            self._leave(lock, self.promised.get((client, lock)))
        if word in ("ask", "told", "not now") and (client, lock) in self.promised:
            self.promised.pop((client, lock))
        if len(step) == 3:
            self.done[(client,) + entry[1:3] + (entry[4],)] = step[2]
            if entry[5][0] == "put":
                self.integers[entry[1:3]] = entry[5][1]
        self.listener(client).hear(entry)

    def _leave(self, lock, number):
        """The holder is None if it was this number."""
        if number is not None and self.holder(lock) == number:
            self.holders[lock] = None

    def ends_ahead(self, step):
        """The end that has to stand ahead of this STEP, as a tuple of one; () if it needs none."""
        if step[0] == "grant":
            lock = step[1]
            is_needed = self.holder(lock) is not None
        else:
            client, entry = step[:2]
            lock = entry[1]
            number = None
            if entry[0] == "not held" or (entry[0] == "look" and not entry[2]):
                number = self.what_stands(client, lock)
            if entry[0] == "stale":
                number = self.listener(client).number_of(entry)
            is_needed = number is not None and self.holder(lock) == number
        return (("end", lock),) if is_needed else ()


def with_ends(steps):
    """These STEPS, without ends, with ("end", lock) right ahead of each that needs it."""
    lock, found = PlainLock(), []
    for step in steps:
        for one in lock.ends_ahead(step) + (step,):
            lock.play(one)
            found.append(one)
    return tuple(found)


def first_barred(steps):
    """The place of the first STEP that is not let; None if all are."""
    lock = PlainLock()
    for place, step in enumerate(steps):
        if not lock.lets(step):
            return place
        lock.play(step)
    return None


def told_of(steps):
    """The TELLING of the entries of STEPS, and of the done deeds in their order."""
    rows = {}
    for step in steps:
        if step[0] in ("grant", "end"):
            continue
        client, entry = step[:2]
        rows.setdefault(("client", client), []).append(entry)
        if len(step) == 3:
            store = ("store",) + entry[1:3]
            rows.setdefault(store, []).append((entry[3], entry[4], entry[5], step[2]))
    return tuple([(house, tuple(rows[house])) for house in sorted(rows)])
