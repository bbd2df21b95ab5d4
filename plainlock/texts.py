"""Texts of FRACTIONS, PLANS, EVENTS, WORLDS and LOGS, and the way back."""

from plainlock.errors import BadText, Unfit
from plainlock.forms import tupled
from plainlock.readers import EVENT_ACTS, LOG_ACTS, EntriesReader, EventsReader, PlanReader, WorldReader
from plainlock.words import (act_words, dashed, fraction_word, house_word, lot_word, number_word, read_fraction,
                             truth_word)


def fraction_text(fraction):
    """The text of a FRACTION; TooMany() if a number has more than 1,000 figures, here and in what follows."""
    return fraction_word(fraction)


def _text(rows):
    """The text of lines, each a list of words."""
    return "\n".join([" ".join(words) for words in rows])


def _pair_words(pairs):
    """The words of pairs of FRACTIONS, or of None."""
    found = []
    for one, other in pairs:
        found.extend([fraction_word(one), fraction_word(other)])
    return found


def _lots_words(lots):
    return ["lots"] + [lot_word(lot) for lot in lots]


def plan_text(plan):
    """The text of a PLAN."""
    lots, keepers, clocks, legs, library, stores, faults = plan
    rows = [_lots_words(lots)]
    for length, record, grace in keepers:
        rows.append(["keeper", fraction_word(length), record, fraction_word(grace)])
    rows.extend([["clocks"] + _pair_words(clocks), ["legs"] + _pair_words(legs)])
    term, counts, stop, releases, sealed = library
    rows.append(["library", fraction_word(term), counts, fraction_word(stop), releases, truth_word(sealed)])
    rows.extend([["store", truth_word(asks), truth_word(keeps)] for asks, keeps in stores])
    return _text(rows + [["faults"] + [dashed(fault) for fault in faults]])


def events_text(events):
    """The text of EVENTS."""
    rows = []
    for house, moment, reading, act in tupled(events):
        words = _deed_words(act) if act[0] == "deed" else act_words(EVENT_ACTS, act)
        rows.append([house_word(house), fraction_word(moment), fraction_word(reading)] + words)
    return _text(rows)


def _deed_words(act):
    word, lock, place, what = act
    return [word, number_word(lock), number_word(place), what[0]] + [number_word(v) for v in what[1:]]


def world_text(world):
    """The text of a WORLD."""
    clocks, legs, keepers, flight, lots = world
    rows = [["clocks"] + _pair_words(clocks)]
    rows.extend([["leg"] + _pair_words([(least, most)]) + [truth_word(sure)] for least, most, sure in legs])
    rows.extend([["keeper", truth_word(keeps), fraction_word(grace)] for keeps, grace in keepers])
    return _text(rows + [["flight"] + _pair_words([flight]), _lots_words(lots)])


def log_text(log):
    """The text of a LOG."""
    rows = []
    for house, reading, act in tupled(log):
        rows.append([house_word(house), fraction_word(reading)] + act_words(LOG_ACTS, act))
    return _text(rows)


def fraction_in(word):
    """The FRACTION that has this text; BadText(1) if none has."""
    try:
        return read_fraction(word)
    except Unfit:
        raise BadText(1) from None


def _read(reader, text):
    """What a reader makes of all lines; BadText(line) for the first that it can't go on with."""
    lines = text.split("\n") if text != "" else []
    for number, line in enumerate(lines):
        try:
            reader.take_line(line.split(" "))
        except Unfit:
            raise BadText(number + 1) from None
    found = reader.whole()
    if found is None:
        raise BadText(len(lines) + 1)
    return found


def plan_in(text):
    """The PLAN that has this text; BadText(line), here and in what follows."""
    return _read(PlanReader(), text)


def events_in(plan, text):
    """The EVENTS of plan that have this text."""
    return _read(EventsReader(tupled(plan)), text)


def world_in(text):
    """The WORLD that has this text."""
    return _read(WorldReader(), text)


def log_in(world, text):
    """The LOG of the WORLD that has this text."""
    return _read(EntriesReader(tupled(world)), text)
