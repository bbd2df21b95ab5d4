"""Keepers: what they write down of a lock, and what they answer."""

from plainlock.errors import Unfit
from plainlock.forms import tupled
from plainlock.fractions import greatest, least, less, plus
from plainlock.plans import check_keeper

# A RECORD is (greatest, holder, until, quiet).
NEW = (None, None, None, None)


def asked(plan, keeper, record, number, reading):
    """(granted, record) behind an ask of number at this reading; NoPlace(keeper)."""
    check_keeper(plan, keeper)
    record, number, reading = tupled(record), tupled(number), tupled(reading)
    if not _grants(plan, record, number, reading):
        return (False, record)
    length = plan[1][keeper][0]
    until = None if length is None else plus(reading, length)
    elder = record[0]
    top = number if elder is None or elder < number else elder
    return (True, (top, number, until, record[3]))


def _grants(plan, record, number, reading):
    top, holder, _, quiet = record
    if quiet is not None and less(reading, quiet):
        return False
    if number == holder:
        return True
    if not _is_free(record, reading):
        return False
    return top is None or top < number or "revives" in plan[6]


def _is_free(record, reading):
    _, holder, until, _ = record
    return holder is None or (until is not None and not less(reading, until))


def let_go(plan, keeper, record, number):
    """The RECORD behind a release of number; NoPlace(keeper)."""
    check_keeper(plan, keeper)
    top, holder, until, quiet = tupled(record)
    number = tupled(number)
    is_own = holder is not None and "bare release" in plan[6] and number[1] == holder[1]
    if number == holder or is_own:
        return (top, None, None, quiet)
    return (top, holder, until, quiet)


def fallen(plan, keeper, record, reading):
    """The RECORD behind a fall at this reading; NoPlace(keeper)."""
    check_keeper(plan, keeper)
    record = tupled(record)
    forgets = "forgets" in plan[6]
    if not _forgets_holder(plan, keeper):
        return record
    quiet = plus(reading, plan[1][keeper][2])
    return (None if forgets else record[0], None, None, quiet)


def _forgets_holder(plan, keeper):
    return plan[1][keeper][1] == "number" or "forgets" in plan[6]


def free_from(plan, keeper, record, reading):
    """The least READING from this one on at which a greater NUMBER is granted; None without one.

    NoPlace(keeper) ahead of all.
    """
    check_keeper(plan, keeper)
    _, holder, until, quiet = record
    if holder is not None and until is None:
        return None
    ends = [reading]
    if holder is not None:
        ends.append(until)
    if quiet is not None:
        ends.append(quiet)
    return greatest(ends)


def kept_for(plan, keeper):
    """By so much at least the reading grows from a grant to one of another number.

    None if there is no such grant without a release; NoPlace(keeper).
    """
    check_keeper(plan, keeper)
    length, _, grace = plan[1][keeper]
    ends = [] if length is None else [length]
    if _forgets_holder(plan, keeper):
        ends.append(grace)
    return least(ends)


class Keeper:
    """A keeper of a PLAN, with a RECORD for each lock."""

    def __init__(self, plan, keeper):
        check_keeper(plan, keeper)
        self._plan = tupled(plan)
        self._keeper = keeper
        self._reading = None
        self._kept = {}
        # Falls are of all locks together, also of those not heard of yet.
        self._unheard = NEW

    def twin(self):
        """Another one that stands as this one does."""
        new = Keeper(self._plan, self._keeper)
        new._reading = self._reading
        new._kept = dict(self._kept)
        new._unheard = self._unheard
        return new

    def take(self, reading, letter):
        """What it answers to a client's letter, a list; Unfit() if reading is less than the last one."""
        reading, letter = self._next(reading), tupled(letter)
        self._reading = reading
        word, lock, number = letter[:3]
        if word == "release":
            self._kept[lock] = let_go(self._plan, self._keeper, self.record(lock), number)
            return []
        granted, record = asked(self._plan, self._keeper, self.record(lock), number, reading)
        self._kept[lock] = record
        if not granted:
            return [("refused", lock, record[0])]
        if "bare grant" in self._plan[6]:
            return [("grant", lock)]
        return [("grant", lock, number, letter[3])]

    def fall(self, reading):
        """It falls, all locks together; Unfit() if reading is less than the last one."""
        reading = self._next(reading)
        self._reading = reading
        for lock in list(self._kept):
            self._kept[lock] = fallen(self._plan, self._keeper, self._kept[lock], reading)
        self._unheard = fallen(self._plan, self._keeper, self._unheard, reading)

    def turn(self, plan):
        """From now on it goes by this PLAN, which has this keeper."""
        check_keeper(plan, self._keeper)
        self._plan = tupled(plan)

    def record(self, lock):
        """Its RECORD of this lock."""
        return self._kept.get(lock, self._unheard)

    def _next(self, reading):
        """reading as a tuple; Unfit() if it is less than the last one."""
        if self._reading is not None and less(reading, self._reading):
            raise Unfit()
        return tupled(reading)
