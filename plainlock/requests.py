"""REQUESTS: what a text asks of a Desk."""

from plainlock.readers import fit, read_faults
from plainlock.words import dashed, read_count, read_fraction, read_lot

ALONE = ("lots", "faults", "term", "counts", "stop", "releases", "sealed")
NUMBERED = ("length", "record", "grace", "asks", "keeps")
SIDED = ("slow", "fast")
LEGGED = ("least", "most")
WHO = ("client", "keeper")
LEGS = ("ask", "grant", "deed", "back")
VALUE_WORDS = ("sent", "taken", "once", "waits", "all", "number")
HOWS = ("elder release", "fall", "forgotten", "lapse", "late grant", "release", "revived")
MOST_LOCKS = 9


def read_setting(words):
    """(name, value) of a set; Unfit() if the words tell none."""
    word = fit(words, words != [])[0]
    if word in ALONE:
        name, rest = (word,), words[1:]
    else:
        fit(words, len(words) >= 2)
        name, rest = (word, _read_second(word, words[1])), words[2:]
    if word == "lots":
        return name, tuple([read_lot(part) for part in fit(rest, rest != [])])
    if word == "faults":
        return name, read_faults(rest)
    return name, _read_value(fit(rest, len(rest) == 1)[0])


def _read_second(word, second):
    """The second part of the name of a SETTING."""
    if word in NUMBERED:
        return read_count(second)
    if word in SIDED:
        return fit(second, second in WHO)
    fit(word, word in LEGGED)
    return fit(second, second in LEGS)


def _read_value(word):
    """The value that a word tells."""
    if word == "none":
        return None
    if word in ("yes", "no"):
        return word == "yes"
    return word if word in VALUE_WORDS else read_fraction(word)


def read_case(words):
    """(locks, language) of a question."""
    locks, language = fit(words, len(words) == 2)
    locks = read_count(locks)
    return fit(locks, 1 <= locks <= MOST_LOCKS), fit(language, language in ("looks", "deeds"))


def read_goal(word):
    return fit(word, word in ("look", "store"))


def read_way(words):
    """(way, goal) of a question."""
    lot, other, keeper, word, goal = fit(words, len(words) == 5)
    hows = [how for how in HOWS if dashed(how) == word]
    way = (read_lot(lot), read_lot(other), read_count(keeper), fit(hows, hows != [])[0])
    return way, read_goal(goal)


def read_pair(words):
    """(lot, other, goal) of a question."""
    lot, other, goal = fit(words, len(words) == 3)
    return read_lot(lot), read_lot(other), read_goal(goal)
