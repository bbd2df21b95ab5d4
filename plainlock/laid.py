"""RUNS laid out: orders of the plain lock's steps made of what was told, and RUNS made of such steps."""

from plainlock.errors import CanNot, Unfit
from plainlock.forms import is_place, tupled
from plainlock.listeners import Listener, first_misfit
from plainlock.locks import with_ends
from plainlock.plain import is_list
from plainlock.plans import can_hold
from plainlock.runs import machine_of
from plainlock.staging import Staging, lot_that_frees


def _fitting(telling):
    """telling as tuples; Unfit() if it does not fit."""
    telling = tupled(telling)
    if first_misfit(telling) is not None:
        raise Unfit()
    return telling


def _listed(steps):
    """steps as tuples; Unfit() if they are no LIST."""
    steps = tupled(steps)
    if not is_list(steps):
        raise Unfit()
    return steps


def _first_answers(telling):
    """For each done deed, by (lock, place, number, serial), its first answer."""
    found = {}
    for house, row in telling:
        if house[0] == "store":
            for number, serial, _, answer in row:
                found.setdefault((house[1], house[2], number, serial), answer)
    return found


def _step(client, entry, answers):
    """The STEP for an entry: a done deed has its answer."""
    if entry[0] == "deed" and entry[1:5] in answers:
        return (client, entry, answers[entry[1:5]])
    return (client, entry)


def by_number(telling):
    """The STEPS of a TELLING of one lock in the order of its numbers.

    Unfit() if it does not fit, CanNot() if entries of several locks occur.
    """
    telling = _fitting(telling)
    rows = [(house[1], row) for house, row in telling if house[0] == "client"]
    if len(set([entry[1] for _, row in rows for entry in row])) > 1:
        raise CanNot()
    answers = _first_answers(telling)
    found, parts = [], []
    for client, row in rows:
        for entry in row:
            if entry[0] == "told":
                parts.append((entry[2], [("grant", entry[1], entry[2])]))
            ahead = parts[-1][1] if parts and parts[-1][0][1] == client else found
            ahead.append(_step(client, entry, answers))
    for _, steps in sorted(parts):
        found.extend(steps)
    return with_ends(found)


def by_told(plan, run):
    """The STEPS of a RUN in the order in which its EVENTS add the entries; Unfit() unless it is one."""
    machine = machine_of(plan, run)
    answers = _first_answers(machine.all_rows())
    entries = []
    for added in machine.entries():
        entries.extend([(house[1], entry) for house, entry in added if house[0] == "client"])
    waiting = _numbers_told(entries)
    found = []
    for place, (client, entry) in enumerate(entries):
        if entry[0] == "told":
            lock, number = entry[1:]
            for other, ask in list(waiting[lock]):
                if other <= number and ask < place:
                    found.append(("grant", lock, other))
                    waiting[lock].remove((other, ask))
        found.append(_step(client, entry, answers))
    return with_ends(found)


def _numbers_told(entries):
    """For each lock the numbers told, ascending, each with the place of its ask."""
    asks, found = {}, {}
    for place, (client, entry) in enumerate(entries):
        if entry[0] == "ask":
            asks[(client, entry[1])] = place
        if entry[0] == "told":
            found.setdefault(entry[1], []).append((entry[2], asks[(client, entry[1])]))
    return {lock: sorted(found[lock]) for lock in found}


def goes_down(telling):
    """(house, place) of the first entry of a store not above the one ahead of it; None without one.

    Unfit() if telling does not fit.
    """
    for house, row in _fitting(telling):
        if house[0] == "store":
            for place in range(1, len(row)):
                if row[place][:2] <= row[place - 1][:2]:
                    return (house, place)
    return None


def is_quiet(steps):
    """Whether a LIST is quiet; Unfit() if steps are none."""
    steps = _listed(steps)
    return all([_is_quiet_at(steps, place) for place in range(len(steps))])


def _is_quiet_at(steps, place):
    step = steps[place]
    behind = steps[place + 1:place + 2]
    if step[0] == "end":
        return True
    if step[0] == "grant":
        return behind == ((step[2][1], ("told",) + step[1:]),)
    client, entry = step[:2]
    if entry[0] == "deed":
        return len(step) == 3 and behind == ((client, ("done",) + entry[1:3] + (entry[4], step[2])),)
    return entry[0] not in ("stale", "not now")


def follows(plan, steps):
    """Whether a LIST follows for plan; Unfit() if steps are none."""
    steps = _listed(steps)
    for step in steps:
        if step[0] not in ("grant", "end") and step[1][0] in ("deed", "not held"):
            if not is_place(len(plan[5]), step[1][2]):
                return False
    if not any([step[0] == "grant" for step in steps]):
        return True
    if not can_hold(plan):
        return False
    return lot_that_frees(tupled(plan), _locks_of(steps)) is not None or _are_left(steps)


def _locks_of(steps):
    """How many locks occur in STEPS."""
    return len(set([step[1] if step[0] in ("grant", "end") else step[1][1] for step in steps]))


def _are_left(steps):
    """Whether ahead of each grant but the first of a lock the number ahead was left by its own client."""
    listeners, left, newest = {}, {}, {}
    for step in steps:
        if step[0] == "grant":
            lock = step[1]
            if lock in newest and newest[lock] not in left:
                return False
            newest[lock] = step[1:]
        elif step[0] != "end":
            client, entry = step[:2]
            listener = listeners.setdefault(client, Listener(client))
            number = listener.standing.get(entry[1])
            listener.hear(entry)
            if number is not None and entry[0] != "stale" and listener.standing.get(entry[1]) is None:
                left[(entry[1], number)] = True
    return True


def ranked(telling):
    """A TELLING with places for its numbers and serials; Unfit() if it does not fit."""
    telling = _fitting(telling)
    told, serials = {}, {}
    for house, row in telling:
        for entry in row:
            if house[0] == "client" and entry[0] == "told":
                told.setdefault(entry[1], []).append(entry[2])
            if house[0] == "client" and entry[0] == "deed":
                serials.setdefault(house[1], []).append(entry[4])
    numbers = {}
    for lock in told:
        for place, number in enumerate(sorted(told[lock])):
            numbers[(lock, number)] = (place + 1, number[1])
    found = []
    for house, row in telling:
        found.append((house, tuple([_ranked_entry(house, entry, numbers, serials) for entry in row])))
    return tuple(found)


def _ranked_entry(house, entry, numbers, serials):
    if house[0] == "store":
        number, serial = entry[:2]
        return (numbers[(house[1], number)], serials[number[1]].index(serial) + 1) + entry[2:]
    word, lock = entry[:2]
    if word == "told":
        return (word, lock, numbers[(lock, entry[2])])
    if word == "deed":
        return entry[:3] + (numbers[(lock, entry[3])], serials[house[1]].index(entry[4]) + 1, entry[5])
    if word in ("done", "stale"):
        return entry[:3] + (serials[house[1]].index(entry[3]) + 1,) + entry[4:]
    return entry


def run_of(plan, steps):
    """A RUN of plan whose TELLING ranked is that of steps ranked.

    Unfit() if steps are not quiet, CanNot() if they do not follow.
    """
    plan, steps = tupled(plan), tupled(steps)
    if not is_quiet(steps):
        raise Unfit()
    if not follows(plan, steps):
        raise CanNot()
    return Staging(plan, _locks_of(steps)).run_of(steps)
