"""CHANGES: plans changed while they run, and whether a look can be late on the way."""

from plainlock.clauses import FAILS, HOLDS, both, clause_of, either
from plainlock.cycles import forms_around
from plainlock.errors import CanNot
from plainlock.families import all_of, any_of, at_least, below
from plainlock.forms import goes_up, is_row, is_tuple_of, tupled
from plainlock.fractions import ONE, ZERO, greatest, is_from_zero, least, less, minus, sum_of
from plainlock.mixes import MANY, Mixing, stage_of
from plainlock.overtaking import Overtaking
from plainlock.plans import can_hold, is_plan
from plainlock.rings import schedule
from plainlock.runs import is_run
from plainlock.ways import of_both

WORDS = ("keepers", "start", "stop")
ASKS = ("ask", "again", "anew")
BOTH = (("new", "new"), ("new", "old"), ("old", "new"), ("old", "old"))


def is_change(thing):
    """Whether thing is a CHANGE."""
    if not is_row(4, thing):
        return False
    old, new, stages, waits = thing
    if not is_plan(old) or not is_plan(new) or not _are_alike(old, new) or not _is_stages(stages):
        return False
    return is_row(len(stages) - 1, waits) and is_tuple_of(is_from_zero, waits)


def _are_alike(old, new):
    """Whether these PLANS can be those of a CHANGE."""
    if old[4][4] or new[4][4] or old[6] != () or any([store != (True, True) for store in old[5]]):
        return False
    return old[2:4] + old[5:] == new[2:4] + new[5:] and len(old[1]) == len(new[1])


def _is_stages(thing):
    """Whether thing is a tuple of sets, none of them (), in which each word occurs once, start not ahead of stop."""
    if not is_tuple_of(_is_stage, thing):
        return False
    found = []
    for stage in thing:
        found.extend(stage)
    return sorted(found) == list(WORDS) and stage_of(thing, "start") >= stage_of(thing, "stop")


def _is_stage(thing):
    if not isinstance(thing, tuple) or thing == ():
        return False
    return all([word in WORDS for word in thing]) and goes_up(thing)


def is_run_of(change, thing):
    """Whether thing is a RUN of a CHANGE."""
    old, new, stages, waits = tupled(change)
    if not is_run((old, new), thing):
        return False
    moments, keepers = _moments_of_words(thing)
    for p in WORDS:
        for q in ("keepers", "start"):
            first, last = stage_of(stages, p), stage_of(stages, q)
            if first < last and not _are_apart(moments[p], moments[q], sum_of(waits[first:last])):
                return False
            if first < last and p == "keepers" and moments[q] and len(keepers) < len(old[1]):
                return False
    return True


def _moments_of_words(run):
    """For each word the moments of its EVENTS; and the keepers that switched."""
    found, keepers, newer = {word: [] for word in WORDS}, {}, {}
    for house, moment, _, act in run:
        if act == ("start",):
            newer[house] = True
            found["start"].append(moment)
        elif act == ("switch",):
            keepers[house] = True
            found["keepers"].append(moment)
        elif act[0] in ASKS and house not in newer:
            found["stop"].append(moment)
    return found, keepers


def _are_apart(some, others, wait):
    """Whether each of others is at least wait greater than each of some."""
    if not some or not others:
        return True
    return not less(minus(least(others), greatest(some)), wait)


def mix_web(change, mix):
    """The WEB of a MIX."""
    old, new, stages, waits = tupled(change)
    return _web(Mixing(old, new, stages), waits, tupled(mix))


def _web(mixing, waits, mix):
    ties = []
    for x, y, most, places in mixing.ties(mix):
        ties.append((x, y, minus(most, sum_of([waits[place] for place in places]))))
    return (MANY, tuple(ties))


def _has_schedule(web):
    try:
        schedule(web)
    except CanNot:
        return False
    return True


def crossings(change):
    """The set of the open CROSSINGS."""
    old, new, stages, waits = tupled(change)
    mixing = Mixing(old, new, stages)
    found = []
    for a, b in BOTH:
        if not can_hold(mixing.plan_by(a)) or not can_hold(mixing.plan_by(b)):
            continue
        ending = [keeper for keeper in range(len(old[1])) if _can_end(mixing, waits, a, b, keeper)]
        for lot in mixing.plan_by(a)[0]:
            for other in mixing.plan_by(b)[0]:
                if all([keeper in ending for keeper in of_both(lot, other)]):
                    found.append(((a, lot), (b, other)))
    return tuple(sorted(found))


def _can_end(mixing, waits, a, b, keeper):
    """Whether the WEB of some MIX of this keeper has a SCHEDULE."""
    return any([_has_schedule(_web(mixing, waits, (a, b, keeper, how))) for how in mixing.hows(keeper)])


def late_run(change):
    """A RUN of a CHANGE with a late look; CanNot() if it is smooth."""
    old, new, stages, waits = tupled(change)
    mixing = Mixing(old, new, stages)
    for (a, lot), (b, other) in crossings(change):
        try:
            return Overtaking(mixing, waits, (a, b)).run(lot, other)
        except CanNot:
            # LOTS without a keeper in common, and waits that keep an old hold apart from a new one: the other
            # way round these LOTS have a RUN.
            continue
    raise CanNot()


def smooth_where(old, new, stages):
    """A CONDITION that holds at just those waits from 0 with which the CHANGE is smooth."""
    mixing = Mixing(tupled(old), tupled(new), tupled(stages))
    unknowns = len(stages) - 1
    needed = HOLDS
    for a, b in BOTH:
        if can_hold(mixing.plan_by(a)) and can_hold(mixing.plan_by(b)):
            needed = both(needed, _shut_where(mixing, unknowns, a, b))
    places = range(unknowns)
    units = [tuple([ONE if place + 1 == at else ZERO for at in range(unknowns + 1)]) for place in places]
    return all_of([at_least(unit) for unit in units] + [any_of([below(form) for form in clause]) for clause in needed])


def _shut_where(mixing, unknowns, a, b):
    """The clauses that hold where no CROSSING of clients by a and by b is open."""
    ends = [_no_end_where(mixing, unknowns, a, b, keeper) for keeper in range(len(mixing.old[1]))]
    needed = HOLDS
    for lot in mixing.plan_by(a)[0]:
        for other in mixing.plan_by(b)[0]:
            shut = FAILS
            for keeper in of_both(lot, other):
                shut = either(shut, ends[keeper])
            needed = both(needed, shut)
    return needed


def _no_end_where(mixing, unknowns, a, b, keeper):
    """The clauses that hold where no WEB of a MIX of this keeper has a SCHEDULE."""
    needed = HOLDS
    for how in mixing.hows(keeper):
        ties = []
        for x, y, most, places in mixing.ties((a, b, keeper, how)):
            ties.append((x, y, (most,) + tuple([(-1 if place in places else 0, 1) for place in range(unknowns)])))
        forms = forms_around(unknowns, MANY, ties)
        if forms is not None:
            needed = both(needed, clause_of(forms))
    return needed


def joint(old, new):
    """The PLAN whose LOTS are each one of old and one of new together."""
    old, new = tupled(old), tupled(new)
    lots = tuple(sorted(set([tuple(sorted(set(lot + other))) for lot in old[0] for other in new[0]])))
    keepers = tuple([_joint_keeper(one, other) for one, other in zip(old[1], new[1])])
    term, counts, stop, releases, sealed = old[4]
    if new[4][1] == "sent":
        counts = "sent"
    return (lots, keepers) + old[2:4] + ((least([term, new[4][0]]), counts, stop, releases, sealed),) + old[5:]


def _joint_keeper(one, other):
    length = None if one[0] is None or other[0] is None else greatest([one[0], other[0]])
    record = "all" if "all" in (one[1], other[1]) else "number"
    return (length, record, greatest([one[2], other[2]]))
