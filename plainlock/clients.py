"""Clients: the library by which one client asks, believes and lets deeds."""

from plainlock.errors import CanNot, Unfit
from plainlock.forms import tupled
from plainlock.fractions import greatest, least, less, plus


class Stand:
    """How one client stands with one lock.

    count is the greatest count heard of or taken; present is the last NUMBER
    taken, newest the serial of the newest ask of it. sendings tells for each
    serial of an ask of it the reading at its sending, starts for each keeper
    its START. unsealed has the places of the stores whose answer to a seal is
    waited for, None if no seal was sent. unanswered tells for each serial of a
    deed without an answer its NUMBER, owed the NUMBERS let go whose release
    waits for these.
    """

    def __init__(self):
        self.count = 0
        self.asking = False
        self.present = None
        self.is_told = False
        self.is_over = True
        self.newest = None
        self.sendings = {}
        self.starts = {}
        self.unsealed = None
        self.unanswered = {}
        self.owed = {}

    def same(self):
        """Another one that stands as this one does."""
        new = Stand()
        new.count = self.count
        new.asking = self.asking
        new.present = self.present
        new.is_told = self.is_told
        new.is_over = self.is_over
        new.newest = self.newest
        new.sendings = dict(self.sendings)
        new.starts = dict(self.starts)
        new.unsealed = None if self.unsealed is None else dict(self.unsealed)
        new.unanswered = dict(self.unanswered)
        new.owed = {number: True for number in self.owed}
        return new

    def begin(self, client):
        """Take the next NUMBER."""
        self.count += 1
        self.present = (self.count, client)
        self.is_told = False
        self.is_over = False
        self.asking = True
        self.sendings = {}
        self.starts = {}
        self.unsealed = None

    def note(self, number):
        """Remember the count of a NUMBER, or None, that a letter told."""
        if number is not None:
            self.count = max(self.count, number[0])

    def is_standing(self):
        return self.is_told and not self.is_over

    def last(self, lots, term):
        """The greatest reading at which it is believed; None if there is none."""
        return greatest([end for end in [self.end_by(lot, term) for lot in lots] if end is not None])

    def end_by(self, lot, term):
        """The greatest reading at which it is believed by this LOT; None if there is none."""
        if not all([keeper in self.starts for keeper in lot]):
            return None
        return plus(least([self.starts[keeper] for keeper in lot]), term)

    def is_waited_for(self, number):
        """Whether some deed of number has no answer that counted yet."""
        return any([other == number for other in self.unanswered.values()])


class Library:
    """The library of one client of a PLAN, with all its locks."""

    def __init__(self, plan, client):
        self._plan = tupled(plan)
        self._client = client
        self._reading = None
        self._serial = 0
        self._stands = {}
        # The deed that was let and is not sent yet: its store and letter.
        self._let = None

    def twin(self):
        """Another one that stands as this one does."""
        new = Library(self._plan, self._client)
        new._reading = self._reading
        new._serial = self._serial
        new._stands = {lock: self._stands[lock].same() for lock in self._stands}
        new._let = self._let
        return new

    def act(self, reading, act):
        """(letters, told) of an ACT of the program at this reading.

        Unfit() if the reading is below the one ahead; CanNot() if it is not let.
        """
        reading, act = tupled(reading), tupled(act)
        self._check(reading, act == ("send",))
        if act == ("send",):
            done = self._sent()
        elif act[0] == "ask":
            done = self._ask(reading, act)
        elif act[0] == "again":
            done = self._again(reading, act[1])
        elif act[0] == "anew":
            done = self._anew(reading, act[1])
        elif act[0] == "not now":
            done = self._not_now(act)
        elif act[0] == "release":
            done = self._release(act[1])
        elif act[0] == "look":
            done = self._look(reading, act[1])
        else:
            done = self._deed(reading, act)
        self._reading = reading
        return done

    def take(self, reading, house, letter):
        """(letters, told) of taking a letter that house sent, at this reading.

        Unfit() if the reading is below the one ahead; CanNot() while a deed is to be sent.
        """
        reading, house, letter = tupled(reading), tupled(house), tupled(letter)
        self._check(reading, False)
        self._reading = reading
        stand = self._at(letter[1])
        if letter[0] == "grant":
            return self._take_grant(stand, reading, house[1], letter)
        if letter[0] == "refused":
            stand.note(letter[2])
            return ((), ())
        if letter[0] == "sealed":
            return self._take_sealed(stand, reading, letter)
        if letter[0] == "unsealed":
            return self._take_unsealed(stand, letter)
        return self._take_answer(stand, letter)

    def number(self, lock):
        """The last NUMBER taken for this lock; None if none was."""
        return self._at(lock).present

    def stands(self, lock):
        """Whether the number is told and not over."""
        return self._at(lock).is_standing()

    def last(self, lock):
        """The greatest reading at which the number is believed as things are; None without one."""
        return self._at(lock).last(self._plan[0], self._plan[4][0])

    def believed_lots(self, lock, reading):
        """The set of the LOTS by which the client believes at this reading."""
        found = []
        for lot in self._plan[0]:
            end = self._at(lock).end_by(lot, self._plan[4][0])
            if end is not None and not less(end, reading):
                found.append(lot)
        return tuple(found)

    def _check(self, reading, is_send):
        """Unfit() if the reading is below the one ahead; CanNot() if but a send is let."""
        if self._reading is not None and less(reading, self._reading):
            raise Unfit()
        if self._let is not None and not is_send:
            raise CanNot()

    def _at(self, lock):
        """The Stand of this lock, kept from now on."""
        if lock not in self._stands:
            self._stands[lock] = Stand()
        return self._stands[lock]

    def _believes(self, stand, reading):
        end = stand.last(self._plan[0], self._plan[4][0])
        return end is not None and not less(end, reading)

    def _to_keepers(self, letter):
        return tuple([(("keeper", keeper), letter) for keeper in range(len(self._plan[1]))])

    def _send_ask(self, stand, reading, lock):
        """The letters of an ask of the present number, with the next serial."""
        self._serial += 1
        stand.newest = self._serial
        stand.sendings[self._serial] = reading
        return self._to_keepers(("ask", lock, stand.present, self._serial))

    def _let_go(self, stand, lock):
        """Make the present number over; the letters of its release, () if that waits."""
        stand.is_over = True
        if self._plan[4][3] == "waits" and stand.is_waited_for(stand.present):
            stand.owed[stand.present] = True
            return ()
        return self._to_keepers(("release", lock, stand.present))

    def _ask(self, reading, act):
        stand = self._at(act[1])
        if stand.asking or not stand.is_over:
            raise CanNot()
        stand.begin(self._client)
        return (self._send_ask(stand, reading, act[1]), (act,))

    def _again(self, reading, lock):
        stand = self._at(lock)
        if stand.is_over:
            raise CanNot()
        return (self._send_ask(stand, reading, lock), ())

    def _anew(self, reading, lock):
        stand = self._at(lock)
        if not stand.asking:
            raise CanNot()
        stand.begin(self._client)
        return (self._send_ask(stand, reading, lock), ())

    def _not_now(self, act):
        stand = self._at(act[1])
        if not stand.asking:
            raise CanNot()
        stand.asking = False
        return (self._let_go(stand, act[1]), (act,))

    def _release(self, lock):
        stand = self._at(lock)
        if not stand.is_standing():
            raise CanNot()
        return (self._let_go(stand, lock), (("released", lock),))

    def _look(self, reading, lock):
        letters, answer = self._looked(reading, lock)
        return (letters, (("look", lock, answer),))

    def _looked(self, reading, lock):
        """(letters, answer) of a look: a number that is told but no more believed is let go."""
        stand = self._at(lock)
        if not stand.is_standing():
            return (), False
        if self._believes(stand, reading):
            return (), True
        return self._let_go(stand, lock), False

    def _deed(self, reading, act):
        _, lock, place, what = act
        letters, answer = self._looked(reading, lock)
        if not answer:
            return (letters, (("not held", lock, place),))
        stand = self._at(lock)
        self._serial += 1
        stand.unanswered[self._serial] = stand.present
        deed = ("deed", lock, place, stand.present, self._serial, what)
        self._let = (("store", lock, place), deed)
        return ((), (deed,))

    def _sent(self):
        if self._let is None:
            raise CanNot()
        letters = (self._let,)
        self._let = None
        return (letters, ())

    def _take_grant(self, stand, reading, keeper, letter):
        if len(letter) == 2:
            number, serial = stand.present, stand.newest
        else:
            number, serial = letter[2:]
        stand.note(number)
        if stand.is_over or number != stand.present or serial not in stand.sendings:
            return ((), ())
        start = reading if self._plan[4][1] == "taken" else stand.sendings[serial]
        stand.starts[keeper] = greatest([start, stand.starts.get(keeper, start)])
        return self._gone_on(stand, reading, letter[1])

    def _gone_on(self, stand, reading, lock):
        """What follows if the number may be believed, or sealed, from now on."""
        if stand.is_told or not self._believes(stand, reading):
            return ((), ())
        if self._plan[4][4] and stand.unsealed is None:
            places = range(len(self._plan[5]))
            stand.unsealed = {place: True for place in places}
            seals = [(("store", lock, place), ("seal", lock, place, stand.present)) for place in places]
            return (tuple(seals), ())
        if stand.unsealed:
            return ((), ())
        stand.is_told = True
        stand.asking = False
        return ((), (("told", lock, stand.present),))

    def _take_sealed(self, stand, reading, letter):
        _, lock, place, number = letter
        stand.note(number)
        if stand.is_over or number != stand.present or not stand.unsealed or place not in stand.unsealed:
            return ((), ())
        stand.unsealed.pop(place)
        return ((), ()) if stand.unsealed else self._gone_on(stand, reading, lock)

    def _take_unsealed(self, stand, letter):
        _, _, _, number, seen = letter
        stand.note(number)
        stand.note(seen)
        if number == stand.present and not stand.is_told:
            stand.is_over = True
        return ((), ())

    def _take_answer(self, stand, letter):
        """done or stale: the first answer of a deed counts."""
        word, lock, _, serial = letter[:4]
        if word == "stale":
            stand.note(letter[4])
        if serial not in stand.unanswered:
            return ((), ())
        number = stand.unanswered.pop(serial)
        if word == "done":
            return (self._owed_release(stand, lock, number), (letter,))
        if number == stand.present:
            stand.is_over = True
        return (self._owed_release(stand, lock, number), (letter[:4],))

    def _owed_release(self, stand, lock, number):
        """The release of a number let go that waited for the last answer of its deeds."""
        if number not in stand.owed or stand.is_waited_for(number):
            return ()
        stand.owed.pop(number)
        return self._to_keepers(("release", lock, number))
