"""The library of a client told once more: by a list of facts, read anew for each answer.

It follows the rules of section 3 word by word and keeps nothing but what
happened, so that it goes wrong in other ways than plainlock.clients does.
"""

from plainlock.errors import CanNot
from plainlock.fractions import less, plus


class Facts:
    def __init__(self, plan, client):
        self.plan, self.client, self.facts = plan, client, []

    def all(self, word, *start):
        """The facts that begin so, what follows of each."""
        return [fact[1 + len(start):] for fact in self.facts if fact[:1 + len(start)] == (word,) + start]

    def number(self, lock):
        numbers = self.all("number", lock)
        return numbers[-1][0] if numbers else None

    def is_over(self, lock):
        return self.number(lock) is None or ("over", lock, self.number(lock)) in self.facts

    def is_told(self, lock):
        return ("told", lock, self.number(lock)) in self.facts

    def is_open(self, lock):
        marks = [fact[0] for fact in self.facts if fact[0] in ("opened", "closed") and fact[1] == lock]
        return bool(marks) and marks[-1] == "opened"

    def stands(self, lock):
        return self.is_told(lock) and not self.is_over(lock)

    def start(self, lock, keeper):
        """All readings noted for grants of this keeper that counted."""
        noted = []
        for serial, reading in self.all("counted", lock, self.number(lock), keeper):
            if self.plan[4][1] == "sent":
                reading = self.all("sent", lock, self.number(lock), serial)[0][0]
            noted.append(reading)
        return max_of(noted)

    def last(self, lock):
        ends = []
        for lot in self.plan[0]:
            starts = [self.start(lock, keeper) for keeper in lot]
            if None not in starts:
                ends.append(plus(min_of(starts), self.plan[4][0]))
        return max_of(ends)

    def believes(self, lock, reading):
        end = self.last(lock)
        return end is not None and not less(end, reading)

    def act(self, reading, act):
        word = act[0]
        if self.all("let") and not (len(self.all("let")) == len(self.all("gone"))):
            if word != "send":
                raise CanNot()
            letter = self.all("let")[-1][0]
            self.facts.append(("gone",))
            return (((("store",) + letter[1:3], letter),), ())
        if word == "send":
            raise CanNot()
        lock = act[1]
        lets = {
            "ask": not self.is_open(lock) and self.is_over(lock), "again": not self.is_over(lock), "anew": self.is_open(lock),
            "not now": self.is_open(lock), "release": self.stands(lock), "look": True, "deed": True,
        }
        if not lets[word]:
            raise CanNot()
        if word in ("ask", "anew"):
            self.facts.append(("over", lock, self.number(lock)))
            counts = [0] + [count for count, in self.all("count", lock)]
            self.facts.append(("number", lock, (max(counts) + 1, self.client)))
            self.facts.append(("count", lock, max(counts) + 1))
            self.facts.append(("opened", lock))
        if word in ("ask", "anew", "again"):
            return (self.ask(lock, reading), (act,) if word == "ask" else ())
        if word == "not now":
            self.facts.append(("closed", lock))
            return (self.let_go(lock), (act,))
        if word == "release":
            return (self.let_go(lock), (("released", lock),))
        return self.look(reading, act)

    def serial(self):
        return len(self.all("serial")) + 1

    def ask(self, lock, reading):
        serial = self.serial()
        self.facts += [("serial",), ("sent", lock, self.number(lock), serial, reading)]
        return self.to_all(("ask", lock, self.number(lock), serial))

    def to_all(self, letter):
        return tuple((("keeper", k), letter) for k in range(len(self.plan[1])))

    def look(self, reading, act):
        lock = act[1]
        answer = self.stands(lock) and self.believes(lock, reading)
        letters = self.let_go(lock) if self.stands(lock) and not answer else ()
        if act[0] == "look":
            return (letters, (("look", lock, answer),))
        if not answer:
            return (letters, (("not held",) + act[1:3],))
        deed = ("deed",) + act[1:3] + (self.number(lock), self.serial(), act[3])
        self.facts += [("serial",), ("under", lock, self.number(lock), deed[4]), ("let", deed)]
        return ((), (deed,))

    def let_go(self, lock):
        number = self.number(lock)
        self.facts += [("over", lock, number), ("let go", lock, number)]
        return self.release(lock, number)

    def release(self, lock, number):
        """The release, if it has to be sent by now and was not."""
        if ("let go", lock, number) not in self.facts or ("released", lock, number) in self.facts:
            return ()
        answered = [serial for serial, in self.all("answered")]
        if self.plan[4][3] == "waits" and any(serial not in answered for serial, in self.all("under", lock, number)):
            return ()
        self.facts.append(("released", lock, number))
        return self.to_all(("release", lock, number))

    def take(self, reading, house, letter):
        if len(self.all("let")) != len(self.all("gone")):
            raise CanNot()
        word, lock = letter[:2]
        for part in letter[2:]:
            if isinstance(part, tuple):
                self.facts.append(("count", lock, part[0]))
        number = self.number(lock)
        sent = [serial for serial, _ in self.all("sent", lock, number)]
        if word == "grant" and not self.is_over(lock):
            if len(letter) == 2:
                letter += (number, sent[-1])
            if letter[2] == number and letter[3] in sent:
                self.facts.append(("counted", lock, number, house[1], letter[3], reading))
        if word == "sealed":
            self.facts.append(("sealed", lock, letter[3], letter[2]))
        if word == "unsealed" and letter[3] == number and not self.is_told(lock):
            self.facts.append(("over", lock, number))
        if word in ("done", "stale"):
            return self.answer(letter)
        return self.telling(lock, reading)

    def answer(self, letter):
        word, lock, _, serial = letter[:4]
        own = [number for number, other in self.all("under", lock) if other == serial]
        if not own or ("answered", serial) in self.facts:
            return ((), ())
        self.facts.append(("answered", serial))
        if word == "stale":
            self.facts.append(("over", lock, own[0]))
        return (self.release(lock, own[0]), (letter if word == "done" else letter[:4],))

    def telling(self, lock, reading):
        """What follows at any taking at which the number is believed and not told."""
        number = self.number(lock)
        if self.is_over(lock) or self.is_told(lock) or not self.believes(lock, reading):
            return ((), ())
        places = range(len(self.plan[5]))
        if self.plan[4][4]:
            if ("seals", lock, number) not in self.facts:
                self.facts.append(("seals", lock, number))
                return (tuple((("store", lock, place), ("seal", lock, place, number)) for place in places), ())
            if any(("sealed", lock, number, place) not in self.facts for place in places):
                return ((), ())
        self.facts += [("told", lock, number), ("closed", lock)]
        return ((), (("told", lock, number),))


def max_of(some):
    best = None
    for x in some:
        if best is None or less(best, x):
            best = x
    return best


def min_of(some):
    best = None
    for x in some:
        if best is None or less(x, best):
            best = x
    return best
