"""Kinds of holds of one lock, by numbers alone: which RULES keep all runs plain."""

from plainlock.errors import CanNot, Unfit
from plainlock.forms import goes_up, is_count, is_place, is_row, is_truth, is_tuple_of, tupled
from plainlock.graphs import least_order, some_circle
from plainlock.kindruns import KindRun

# Stores are numbers below this one.
STORES = 20


def is_table(thing):
    """Whether thing is a TABLE."""
    if not isinstance(thing, tuple) or thing == ():
        return False
    if not all([_is_kinds(len(thing), bears) for bears in thing]):
        return False
    return all([kind in thing[other] for kind, bears in enumerate(thing) for other in bears])


def _is_kinds(many, thing):
    """Whether thing is a set of some of so many kinds."""
    return isinstance(thing, tuple) and all([is_place(many, kind) for kind in thing]) and goes_up(thing)


def is_rules(thing):
    """Whether thing is RULES."""
    if not is_row(3, thing) or not is_table(thing[0]) or not is_truth(thing[1]):
        return False
    carry = thing[2]
    if not isinstance(carry, tuple):
        return False
    return all([_is_pair(len(thing[0]), pair) for pair in carry]) and goes_up(carry)


def _is_pair(many, thing):
    return is_row(2, thing) and is_place(many, thing[0]) and is_place(many, thing[1])


def is_kind_run(rules, thing):
    """Whether thing is a KIND RUN of RULES."""
    return is_tuple_of(_is_step, thing) and _played(rules, thing) is not None


def _is_step(thing):
    """Whether thing has the form of a step."""
    if is_row(3, thing):
        return thing[0] == "send" and is_count(thing[1]) and is_place(STORES, thing[2])
    return is_row(2, thing) and thing[0] in ("tell", "take", "hear") and is_count(thing[1])


def _played(rules, steps):
    """The KindRun that has played these steps; None if one of them is not let."""
    played = KindRun(tupled(rules))
    for step in steps:
        if not played.lets(step):
            return None
        played.play(step)
    return played


def _checked(rules, run):
    """The KindRun that has played run; Unfit() if that is no KIND RUN of RULES."""
    run = tupled(run)
    played = _played(rules, run) if is_tuple_of(_is_step, run) else None
    if played is None:
        raise Unfit()
    return played


def is_kind_list(rules, run, thing):
    """Whether thing is a KIND LIST of run; Unfit() if run is no KIND RUN."""
    played = _checked(rules, run)
    if not is_tuple_of(_is_list_step, thing):
        return False
    places = {step: place for place, step in enumerate(thing)}
    marks = played.marks()
    ends = [("end", hold) for hold in range(played.many_holds())]
    if len(places) != len(thing) or sorted(places) != sorted(marks + ends):
        return False
    for mark in marks:
        if places[mark] > places[("end", played.hold_of(mark))]:
            return False
    if not all([places[mark] < places[other] for mark in marks for other in played.behind(mark)]):
        return False
    return all([places[("end", hold)] < places[("tell", other)] for hold, other in played.conflicts()])


def _is_list_step(thing):
    return is_row(2, thing) and thing[0] in ("tell", "done", "end") and is_count(thing[1])


def is_kind_loop(rules, run, thing):
    """Whether thing is a LOOP of run; Unfit() if run is no KIND RUN."""
    played = _checked(rules, run)
    if not is_tuple_of(_is_list_step, thing) or len(thing) < 2 or len(set(thing)) != len(thing):
        return False
    marks = played.marks()
    if not all([mark in marks for mark in thing]):
        return False
    return all([other in played.behind(mark) for mark, other in zip(thing, thing[1:] + thing[:1])])


def needed(table):
    """The set of the needed pairs of kinds."""
    found = []
    for kind, bears in enumerate(table):
        for other in bears:
            if any([other not in table[some] for some in bears]):
                found.append((kind, other))
    return tuple(sorted(found))


def kind_rows(rules, run):
    """(letters, rows): for each letter whether it is done, for each store its done letters."""
    played = _checked(rules, run)
    return (tuple(played.outcomes()), played.store_rows())


def kind_list(rules, run):
    """A KIND LIST of run; CanNot() if there is none."""
    played = _checked(rules, run)
    order = least_order(_behind_all(played))
    if order is None:
        raise CanNot()
    left = {hold: 0 for hold in range(played.many_holds())}
    for mark in order:
        left[played.hold_of(mark)] += 1
    found = []
    for mark in order:
        hold = played.hold_of(mark)
        found.append(mark)
        left[hold] -= 1
        if left[hold] == 0:
            found.append(("end", hold))
    return tuple(found)


def kind_loop(rules, run):
    """A LOOP of run; CanNot() if there is none."""
    circle = some_circle(_behind_all(_checked(rules, run)))
    if circle is None:
        raise CanNot()
    return circle


def _behind_all(played):
    """For each MARK those that must be behind it."""
    return {mark: played.behind(mark) for mark in played.marks()}


def kinds_right(rules):
    """Whether all KIND RUNS of RULES have a KIND LIST."""
    return _uncarried(rules) is None and _unknown_pair(rules) is None


def _uncarried(rules):
    """A needed pair that is not of carry; None if there is none."""
    carry = tupled(rules[2])
    for pair in needed(rules[0]):
        if pair not in carry:
            return pair
    return None


def _unknown_pair(rules):
    """Two kinds that bear each other, neither all kinds, where grants is False; None without such."""
    table, grants = rules[:2]
    for kind, bears in enumerate(table):
        for other in bears:
            if not grants and len(bears) < len(table) and len(table[other]) < len(table):
                return (kind, other)
    return None


def wrong_run(rules):
    """A KIND RUN with a LOOP, of at most four holds and two stores; CanNot() if there is none."""
    table = rules[0]
    pair = _uncarried(rules)
    if pair is not None:
        return _run_uncarried(table, pair[0], pair[1])
    pair = _unknown_pair(rules)
    if pair is None:
        raise CanNot()
    return _run_unknown(table, pair[0], pair[1])


def _run_uncarried(table, kind, other):
    """A run in which a store hears nothing of a hold of `other`.

    A hold of kind is done behind that one at store 0, and at store 1 ahead of
    an elder one that conflicts with it.
    """
    elder = [some for some in table[kind] if other not in table[some]][0]
    # Holds 0, 1 and 2: the elder one, that of kind, that of other.
    return (("tell", elder), ("tell", kind), ("tell", other)) + _done(2, 0, 0) + _done(1, 0, 1) + (
        ("hear", 1),) + _done(1, 1, 2) + _done(0, 1, 3)


def _run_unknown(table, kind, other):
    """A hold of kind is done behind one of `other`, with one between them that conflicts with the first.

    If one kind conflicts with both, one hold of it is enough; else there are
    two, of which the later one conflicts with the last hold.
    """
    foes = [some for some in range(len(table)) if some not in table[kind]]
    last_foes = [some for some in range(len(table)) if some not in table[other]]
    both = [some for some in foes if some in last_foes]
    if both:
        return (("tell", kind), ("tell", both[0]), ("tell", other)) + _done(2, 0, 0) + _done(0, 0, 1)
    return (("tell", kind), ("tell", foes[0]), ("tell", last_foes[0]), ("tell", other)) + (
        _done(1, 1, 0) + _done(2, 1, 1) + _done(3, 0, 2) + _done(0, 0, 3))


def _done(hold, store, letter):
    """A letter of this hold is sent and comes to this store."""
    return (("send", hold, store), ("take", letter))
