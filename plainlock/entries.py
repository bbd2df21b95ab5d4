"""The forms of what is told: entries of ROWS, STEPS and NODES."""

from plainlock.forms import goes_up, is_count, is_number, is_row, is_truth
from plainlock.runs import is_what


def is_lock_number(thing):
    """Whether thing is a NUMBER."""
    return is_row(2, thing) and is_count(thing[0]) and is_count(thing[1])


def is_client_entry(thing):
    """Whether thing is an entry of a client's ROW."""
    if not isinstance(thing, tuple) or len(thing) < 2 or not is_count(thing[1]):
        return False
    word, rest = thing[0], thing[2:]
    if word in ("ask", "released", "not now"):
        return rest == ()
    if word == "told":
        return len(rest) == 1 and is_lock_number(rest[0])
    if word == "look":
        return len(rest) == 1 and is_truth(rest[0])
    if word == "not held":
        return len(rest) == 1 and is_count(rest[0])
    if word == "deed":
        return len(rest) == 4 and is_count(rest[0]) and is_lock_number(rest[1]) and _is_deed(rest[2], rest[3])
    if word == "done":
        return len(rest) == 3 and is_count(rest[0]) and _is_serial(rest[1]) and is_number(rest[2])
    return word == "stale" and len(rest) == 2 and is_count(rest[0]) and _is_serial(rest[1])


def _is_deed(serial, what):
    return _is_serial(serial) and is_what(what)


def _is_serial(thing):
    return is_count(thing) and thing >= 1


def is_store_entry(thing):
    """Whether thing is an entry of a store's ROW."""
    return is_row(4, thing) and is_lock_number(thing[0]) and _is_deed(thing[1], thing[2]) and is_number(thing[3])


def is_told(thing):
    """Whether thing is a TELLING."""
    if not isinstance(thing, tuple) or not all([is_row(2, pair) and _is_house_row(pair[0], pair[1]) for pair in thing]):
        return False
    return goes_up([house for house, _ in thing])


def _is_house_row(house, row):
    """Whether row is a ROW, not (), of such a house."""
    if not isinstance(row, tuple) or row == ():
        return False
    if is_row(2, house) and house[0] == "client":
        return is_count(house[1]) and all([is_client_entry(entry) for entry in row])
    if is_row(3, house) and house[0] == "store":
        return is_count(house[1]) and is_count(house[2]) and all([is_store_entry(entry) for entry in row])
    return False


def is_step(thing):
    """Whether thing is a STEP."""
    if not isinstance(thing, tuple) or thing == ():
        return False
    if thing[0] == "end":
        return len(thing) == 2 and is_count(thing[1])
    if thing[0] == "grant":
        return is_grant(thing)
    if len(thing) not in (2, 3) or not is_count(thing[0]) or not is_client_entry(thing[1]):
        return False
    return len(thing) == 2 or (thing[1][0] == "deed" and is_number(thing[2]))


def is_grant(thing):
    """Whether thing is a grant, as a STEP or a NODE."""
    return is_row(3, thing) and thing[0] == "grant" and is_count(thing[1]) and is_lock_number(thing[2])


def is_node_form(thing):
    """Whether thing has the form of a NODE."""
    return is_grant(thing) or (is_row(2, thing) and is_count(thing[0]) and is_count(thing[1]))
