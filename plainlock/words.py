"""Words of texts: numbers, FRACTIONS, LOTS, NUMBERS and houses, written and read."""

from plainlock.errors import TooMany, Unfit
from plainlock.forms import goes_up
from plainlock.fractions import is_fraction

FIGURES = 1000
DIGITS = "0123456789"
TRUTHS = (("yes", True), ("no", False))


def number_word(number):
    """A number by its figures; TooMany() if there are more than 1,000."""
    limit = 1
    for _ in range(FIGURES // 50):
        limit = limit * 10 ** 50
    if abs(number) >= limit:
        raise TooMany()
    return str(number)


def fraction_word(x):
    """A FRACTION, or None."""
    if x is None:
        return "none"
    if x[1] == 1:
        return number_word(x[0])
    return number_word(x[0]) + "/" + number_word(x[1])


def truth_word(truth):
    return "yes" if truth else "no"


def lot_word(lot):
    return ".".join([number_word(keeper) for keeper in lot])


def lock_number_word(number):
    """A NUMBER."""
    return number_word(number[0]) + ":" + number_word(number[1])


def house_word(house):
    """A house by its letter and its numbers."""
    return house[0][0] + lot_word(house[1:])


def read_count(word):
    """The number from 0 that has this word; Unfit() if none has, here and in what follows."""
    if word == "" or len(word) > FIGURES or any([sign not in DIGITS for sign in word]):
        raise Unfit()
    if word[0] == "0" and word != "0":
        raise Unfit()
    return int(word)


def read_number(word):
    """The number that has this word."""
    if word[:1] != "-":
        return read_count(word)
    found = read_count(word[1:])
    if found == 0:
        raise Unfit()
    return -found


def read_fraction(word):
    """The FRACTION that has this word."""
    parts = word.split("/")
    top = read_number(parts[0])
    if len(parts) == 1:
        return (top, 1)
    if len(parts) > 2:
        raise Unfit()
    found = (top, read_count(parts[1]))
    if found[1] < 2 or not is_fraction(found):
        raise Unfit()
    return found


def read_told(word):
    """The FRACTION, or None, that has this word."""
    return None if word == "none" else read_fraction(word)


def read_truth(word):
    for told, truth in TRUTHS:
        if word == told:
            return truth
    raise Unfit()


def read_lot(word):
    """The LOT that has this word, of any keepers."""
    found = tuple([read_count(part) for part in word.split(".")])
    if not goes_up(found):
        raise Unfit()
    return found


def read_lock_number(word):
    """The NUMBER that has this word."""
    count, client = parts_of_word(word, ":", 2)
    return (read_count(count), read_count(client))


def read_house(word):
    """The house that has this word, be it there or not."""
    if word[:1] == "s":
        lock, place = parts_of_word(word[1:], ".", 2)
        return ("store", read_count(lock), read_count(place))
    if word[:1] not in ("c", "k"):
        raise Unfit()
    return ("client" if word[0] == "c" else "keeper", read_count(word[1:]))


def parts_of_word(word, sign, many):
    """So many parts of a word, with a sign between them."""
    parts = word.split(sign)
    if len(parts) != many:
        raise Unfit()
    return parts


def dashed(word):
    """A word that can have spaces in it, written as one."""
    return word.replace(" ", "-")


def part_word(kind, part):
    """A part of an act: a number, a FRACTION or None, a NUMBER, a house."""
    if kind == "number":
        return number_word(part)
    if kind == "told":
        return fraction_word(part)
    return lock_number_word(part) if kind == "lock number" else house_word(part)


def read_part(kind, word):
    """The part of an act that has this word."""
    if kind == "number":
        return read_count(word)
    if kind == "told":
        return read_told(word)
    return read_lock_number(word) if kind == "lock number" else read_house(word)


def act_words(forms, act):
    """The words of an act, by the forms of all acts."""
    for word, kinds in forms:
        if word == act[0]:
            return [dashed(word)] + [part_word(kind, part) for kind, part in zip(kinds, act[1:])]
    raise Unfit()


def read_act(forms, words):
    """The act that has these words."""
    for word, kinds in forms:
        if words[:1] == [dashed(word)] and len(words) == len(kinds) + 1:
            return (word,) + tuple([read_part(kind, told) for kind, told in zip(kinds, words[1:])])
    raise Unfit()
