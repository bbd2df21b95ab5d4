"""PLANS: what a service that lends locks says of itself, and its SETTINGS."""

from plainlock.errors import NoPlace, Unfit
from plainlock.forms import goes_up, is_place, is_row, is_truth, is_tuple_of, tupled
from plainlock.fractions import ZERO, is_from_zero, is_most, less, over, plus, times
from plainlock.sheets import is_clock

FAULTS = ("bare grant", "bare release", "forgets", "revives")
LEGS = ("ask", "grant", "deed", "back")
WHO = ("client", "keeper")
# Where in a PLAN each part stands that it has once.
SINGLE = (
    (("lots",), (0,)),
    (("faults",), (6,)),
    (("term",), (4, 0)),
    (("counts",), (4, 1)),
    (("stop",), (4, 2)),
    (("releases",), (4, 3)),
    (("sealed",), (4, 4)),
)
KEEPER_PARTS = ("length", "record", "grace")
STORE_PARTS = ("asks", "keeps")
TIMES = ("term", "stop", "length", "grace", "least", "most")


def is_plan(thing):
    """Whether thing is a PLAN."""
    if not is_row(7, thing):
        return False
    lots, keepers, clocks, legs, library, stores, faults = thing
    if not is_tuple_of(is_kept, keepers) or keepers == ():
        return False
    if not is_lots(len(keepers), lots):
        return False
    if not is_row(2, clocks) or not is_tuple_of(is_clock, clocks):
        return False
    if not is_row(4, legs) or not is_tuple_of(is_leg, legs):
        return False
    if not is_library(library) or not is_tuple_of(_is_store, stores) or stores == ():
        return False
    return is_faults(faults) and (faults == () or not library[4])


def is_faults(thing):
    """Whether thing is a set of some of the faults."""
    return is_tuple_of(_is_fault, thing) and goes_up(thing)


def _is_fault(thing):
    return thing in FAULTS


def is_lots(many, thing):
    """Whether thing is a set, not (), of LOTS of so many keepers."""
    if not isinstance(thing, tuple) or thing == ():
        return False
    return all([is_lot(many, lot) for lot in thing]) and goes_up(thing)


def is_lot(many, thing):
    """Whether thing is a LOT of so many keepers."""
    if not isinstance(thing, tuple) or thing == ():
        return False
    return all([is_place(many, keeper) for keeper in thing]) and goes_up(thing)


def is_kept(thing):
    """Whether thing is what a PLAN tells of a keeper."""
    if not is_row(3, thing):
        return False
    length, record, grace = thing
    return _is_length(length) and record in ("all", "number") and is_from_zero(grace)


def _is_length(thing):
    return thing is None or is_from_zero(thing)


def is_leg(thing):
    """Whether thing is a LEG."""
    if not is_row(2, thing):
        return False
    least, most = thing
    return is_from_zero(least) and least != ZERO and is_most(least, most)


def is_library(thing):
    """Whether thing is what a PLAN tells of the library."""
    if not is_row(5, thing):
        return False
    term, counts, stop, releases, sealed = thing
    if not is_from_zero(term) or counts not in ("sent", "taken"):
        return False
    return _is_length(stop) and releases in ("once", "waits") and is_truth(sealed)


def _is_store(thing):
    """Whether thing is what a PLAN tells of a store."""
    return is_row(2, thing) and is_tuple_of(is_truth, thing)


def settings(plan):
    """The set of the SETTINGS of plan."""
    return tuple(sorted([name for name, _ in _paths(plan)]))


def times_of(plan):
    """The set of those SETTINGS that are TIMES."""
    told = [name for name, path in _paths(plan) if name[0] in TIMES and _at(plan, path) is not None]
    return tuple(sorted(told))


def _paths(plan):
    """For each SETTING its name, and the places that lead to it in the PLAN."""
    found = list(SINGLE)
    for k in range(len(plan[1])):
        found.extend([((word, k), (1, k, part)) for part, word in enumerate(KEEPER_PARTS)])
    for place in range(len(plan[5])):
        found.extend([((word, place), (5, place, part)) for part, word in enumerate(STORE_PARTS)])
    for who, word in enumerate(WHO):
        found.extend([(("slow", word), (2, who, 0)), (("fast", word), (2, who, 1))])
    for leg, word in enumerate(LEGS):
        found.extend([(("least", word), (3, leg, 0)), (("most", word), (3, leg, 1))])
    return found


def _path(plan, name):
    """The places that lead to what name names; NoPlace(name) if it is no SETTING."""
    for known, path in _paths(plan):
        # True would be taken for 1.
        if known == name and not any(is_truth(part) for part in name):
            return path
    raise NoPlace(name)


def _at(value, path):
    """What stands in value at the end of path."""
    for place in path:
        value = value[place]
    return value


def _with(value, path, new):
    """value with new at the end of path."""
    if path == ():
        return new
    place = path[0]
    return value[:place] + (_with(value[place], path[1:], new),) + value[place + 1:]


def setting(plan, name):
    """What plan has at name; NoPlace(name) if that is no SETTING of it."""
    return tupled(_at(plan, _path(plan, tupled(name))))


def changed(plan, name, value):
    """plan with value at name; NoPlace(name) if it is no SETTING, Unfit() if that is no PLAN."""
    new = _with(tupled(plan), _path(plan, tupled(name)), tupled(value))
    if not is_plan(new):
        raise Unfit()
    return new


def replaced(plan, name, value):
    """plan with value at name, one of its SETTINGS, be that a PLAN or not."""
    return _with(plan, _path(plan, name), value)


def scaled(plan, factor):
    """plan with all TIMES times factor; Unfit() unless that is above 0."""
    if not less(ZERO, factor):
        raise Unfit()
    new = tupled(plan)
    for name in times_of(plan):
        path = _path(plan, name)
        new = _with(new, path, times(_at(plan, path), factor))
    return new


def longest_belief(plan):
    """For so many moments at most a client believes by one START."""
    return over(plan[4][0], plan[2][0][0])


def shortest_keep(plan, keeper):
    """For so many moments at least a grant is kept; None for ever; NoPlace(keeper)."""
    check_keeper(plan, keeper)
    length = plan[1][keeper][0]
    return None if length is None else over(length, plan[2][1][1])


def check_keeper(plan, keeper):
    """NoPlace(keeper) if plan has no such keeper."""
    if not is_place(len(plan[1]), keeper):
        raise NoPlace(keeper)


def can_hold(plan):
    """Whether a hold can be had."""
    ask, grant = plan[3][:2]
    if plan[4][1] == "taken" or "bare grant" in plan[6]:
        return True
    return not less(longest_belief(plan), plus(ask[0], grant[0]))


def same_but_times(plan, other):
    """Whether other is plan but for clocks, legs and stop."""
    return _without_times(plan) == _without_times(other)


def _without_times(plan):
    lots, keepers, _, _, library, stores, faults = tupled(plan)
    term, counts, _, releases, sealed = library
    return (lots, keepers, term, counts, releases, sealed, stores, faults)


def covers(plan, other):
    """Whether other lets its clocks, legs and stop be whatever plan does.

    Unfit() unless other is plan but for these.
    """
    if not same_but_times(plan, other):
        raise Unfit()
    for (slow, fast), (slower, faster) in zip(plan[2], other[2]):
        if less(slow, slower) or less(faster, fast):
            return False
    # Where no hold can be had, no deed is ever let: then nobody sends by the
    # last two legs.
    many = 4 if can_hold(plan) else 2
    if not all([_covers_leg(leg, wider) for leg, wider in zip(plan[3][:many], other[3])]):
        return False
    return many == 2 or _is_up_to(plan[4][2], other[4][2])


def _covers_leg(leg, wider):
    return not less(leg[0], wider[0]) and _is_up_to(leg[1], wider[1])


def _is_up_to(most, other):
    """Whether most is at most other; None is above all."""
    if other is None:
        return True
    return most is not None and not less(other, most)
