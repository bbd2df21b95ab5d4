"""Readers of texts: line by line, each of which goes on with what can still become a PLAN, a WORLD, EVENTS, a LOG."""

from plainlock.errors import Unfit
from plainlock.forms import goes_up
from plainlock.logs import LogReader, is_entry
from plainlock.plans import FAULTS, is_faults, is_kept, is_leg, is_library, is_lots
from plainlock.runs import is_events
from plainlock.sheets import is_clock
from plainlock.views import is_flight, is_kept_pair, is_sure_leg
from plainlock.words import (dashed, read_act, read_count, read_fraction, read_house, read_lot, read_number, read_told,
                             read_truth)

# The parts of each act behind its word, for EVENTS and for LOGS; deeds are told apart.
EVENT_ACTS = (("ask", ("number",)), ("again", ("number",)), ("anew", ("number",)), ("not now", ("number",)),
              ("release", ("number",)), ("look", ("number",)), ("send", ()), ("start", ()), ("take", ("number",)),
              ("fall", ()), ("switch", ()))
LOG_ACTS = (("ask", ("number", "lock number")), ("release", ("number", "lock number")), ("look", ()),
            ("grant", ("lock number", "told", "told")), ("renew", ("lock number", "told")),
            ("call", ("lock number",)), ("fall", ()), ("tell", ("house",)), ("hear", ("number",)))


def fit(thing, is_so):
    """thing; Unfit() if it is not so."""
    if not is_so:
        raise Unfit()
    return thing


def read_lots(words):
    """The LOTS of these words."""
    lots = tuple([read_lot(word) for word in words])
    return fit(lots, lots != () and goes_up(lots))


def read_faults(words):
    """The faults of these words."""
    found = []
    for word in words:
        known = [fault for fault in FAULTS if dashed(fault) == word]
        fit(word, known != [])
        found.extend(known)
    return tuple(found)


def read_pairs(words, readers):
    """Pairs of what these words tell, each pair read by these two."""
    first, second = readers
    return tuple([(first(words[k]), second(words[k + 1])) for k in range(0, len(words), 2)])


def parts_behind(words, many):
    """The words behind the first one; Unfit() unless there are so many."""
    return fit(words[1:], len(words) == many + 1)


def read_clocks(words):
    clocks = read_pairs(parts_behind(words, 4), (read_fraction, read_fraction))
    return fit(clocks, is_clock(clocks[0]) and is_clock(clocks[1]))


class PlanReader:
    """The text of a PLAN read so far."""

    def __init__(self):
        self.lots = None
        self.kept = []
        self.clocks = None
        self.legs = None
        self.parts = None
        self.stores = []
        self.faults = None

    def may_begin(self):
        """The words with which the next line may begin."""
        if self.lots is None:
            return ("lots",)
        if self.clocks is None:
            greatest_one = max([max(lot) for lot in self.lots])
            return ("keeper", "clocks") if len(self.kept) > greatest_one else ("keeper",)
        if self.legs is None:
            return ("legs",)
        if self.parts is None:
            return ("library",)
        if self.faults is None:
            return ("store", "faults") if self.stores else ("store",)
        return ()

    def take_line(self, words):
        """Read one more line; Unfit() if it can't go on so."""
        word = fit(words[0], words[0] in self.may_begin())
        if word == "lots":
            self.lots = read_lots(words[1:])
        elif word == "keeper":
            length, record, grace = parts_behind(words, 3)
            kept = (read_told(length), record, read_fraction(grace))
            self.kept.append(fit(kept, is_kept(kept)))
        elif word == "clocks":
            self.clocks = read_clocks(words)
        elif word == "legs":
            legs = read_pairs(parts_behind(words, 8), (read_fraction, read_told))
            self.legs = fit(legs, all([is_leg(leg) for leg in legs]))
        elif word == "library":
            term, counts, stop, releases, sealed = parts_behind(words, 5)
            parts = (read_fraction(term), counts, read_told(stop), releases, read_truth(sealed))
            self.parts = fit(parts, is_library(parts))
        elif word == "store":
            self.stores.extend(read_pairs(parts_behind(words, 2), (read_truth, read_truth)))
        else:
            faults = read_faults(words[1:])
            self.faults = fit(faults, is_faults(faults) and (faults == () or not self.parts[4]))

    def whole(self):
        """The PLAN; None if something is missing."""
        if self.faults is None:
            return None
        return (self.lots, tuple(self.kept), self.clocks, self.legs, self.parts, tuple(self.stores), self.faults)


class WorldReader:
    """The text of a WORLD read so far."""

    def __init__(self):
        self.clocks = None
        self.legs = []
        self.kept = []
        self.flight = None
        self.lots = None

    def may_begin(self):
        """The words with which the next line may begin."""
        if self.clocks is None:
            return ("clocks",)
        if len(self.legs) < 4:
            return ("leg",)
        if self.flight is None:
            # Without a keeper there are no LOTS.
            return ("keeper", "flight") if self.kept else ("keeper",)
        return ("lots",) if self.lots is None else ()

    def take_line(self, words):
        """Read one more line; Unfit() if it can't go on so."""
        word = fit(words[0], words[0] in self.may_begin())
        if word == "clocks":
            self.clocks = read_clocks(words)
        elif word == "leg":
            least, most, sure = parts_behind(words, 3)
            leg = (read_fraction(least), read_told(most), read_truth(sure))
            self.legs.append(fit(leg, is_sure_leg(leg)))
        elif word == "keeper":
            keeps, grace = parts_behind(words, 2)
            kept = (read_truth(keeps), read_fraction(grace))
            self.kept.append(fit(kept, is_kept_pair(kept)))
        elif word == "flight":
            least, most = parts_behind(words, 2)
            flight = (read_fraction(least), read_told(most))
            self.flight = fit(flight, is_flight(flight))
        else:
            lots = read_lots(words[1:])
            self.lots = fit(lots, is_lots(len(self.kept), lots))

    def whole(self):
        """The WORLD; None if something is missing."""
        if self.lots is None:
            return None
        return (self.clocks, tuple(self.legs), tuple(self.kept), self.flight, self.lots)


class EventsReader:
    """The text of EVENTS of a PLAN read so far."""

    def __init__(self, plan):
        self.terms = plan
        self.found = []

    def take_line(self, words):
        """Read one more line; Unfit() if it can't go on so."""
        fit(words, len(words) >= 4)
        act = read_deed(words[3:]) if words[3] == "deed" else read_act(EVENT_ACTS, words[3:])
        event = (read_house(words[0]), read_fraction(words[1]), read_told(words[2]), act)
        self.found.append(fit(event, is_events(self.terms, (event,))))

    def whole(self):
        """The EVENTS."""
        return tuple(self.found)


def read_deed(words):
    """The deed that has these words."""
    fit(words, len(words) >= 4)
    lock, place = read_count(words[1]), read_count(words[2])
    if words[3] == "get" and len(words) == 4:
        return ("deed", lock, place, ("get",))
    fit(words, words[3] == "put" and len(words) == 5)
    return ("deed", lock, place, ("put", read_number(words[4])))


class EntriesReader:
    """The text of a LOG of a WORLD read so far."""

    def __init__(self, world):
        self.many = len(world[2])
        self.reader = LogReader(world)

    def take_line(self, words):
        """Read one more line; Unfit() if it can't go on so."""
        fit(words, len(words) >= 3)
        entry = (read_house(words[0]), read_fraction(words[1]), read_act(LOG_ACTS, words[2:]))
        fit(entry, is_entry(self.many, entry) and self.reader.lets(entry))
        self.reader.add(entry)

    def whole(self):
        """The LOG."""
        return tuple(self.reader.log)
