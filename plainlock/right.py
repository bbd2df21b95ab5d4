"""Right plans: whether clients can tell a service from the plain lock, with a paper either way."""

from plainlock.errors import CanNot, Unfit
from plainlock.forms import is_count, is_row, tupled
from plainlock.fractions import ZERO, plus
from plainlock.plain import list_of
from plainlock.plans import can_hold, is_lot
from plainlock.runs import machine_of
from plainlock.sheets import is_no_way, with_ties
from plainlock.staging import Staging
from plainlock.ways import (has_sheet, hows, is_shut_at, is_way_shut, of_both, open_pairs, open_run, sheet, shut_sum,
                            way_ends, ways)

# What becomes of a client or a lock in a mirror.
OTHER_ONE = (1, 0)


def reasons(plan, locks, language):
    """The set of the REASONS why plan is not right; () if no hold can be had."""
    if not can_hold(plan):
        return ()
    found = [] if _all_keep(plan) else ["keeps"]
    return tuple(found + [goal for goal in _goals(plan, locks, language) if open_pairs(plan, goal) != ()])


def _all_keep(plan):
    return all([keeps for _, keeps in plan[5]])


def _goals(plan, locks, language):
    """The goals, ascending, for which all pairs of LOTS must be shut."""
    found = []
    if locks >= 2 and not (language == "deeds" and plan[4][4]):
        found.append("look")
    if not all([asks for asks, _ in plan[5]]):
        found.append("store")
    return found


def is_right(plan, locks, language):
    """Whether plan is right for so many locks in this language."""
    return reasons(plan, locks, language) == ()


def is_within(run, locks, language):
    """Whether all EVENTS of a RUN are of locks below locks, and none looks in "deeds"."""
    for house, _, _, act in run:
        if house[0] == "store" and house[1] >= locks:
            return False
        if _has_lock(act) and act[1] >= locks:
            return False
        if act[0] == "look" and language == "deeds":
            return False
    return True


def _has_lock(act):
    """Whether an act names a lock."""
    return len(act) >= 2 and act[0] != "take"


def is_bad(plan, run):
    """Whether the TELLING of run does not fit or has a KNOT; Unfit() unless it is a RUN of plan."""
    told = machine_of(plan, run).all_rows()
    try:
        list_of(told)
    except (CanNot, Unfit):
        return True
    return False


def proof(plan, locks, language):
    """A PROOF; CanNot() unless plan is right and a hold can be had."""
    plan = tupled(plan)
    if not can_hold(plan) or not is_right(plan, locks, language):
        raise CanNot()
    found, sums = [], {}
    for goal in _goals(plan, locks, language):
        for lot, other in _pairs(plan):
            keeper = [one for one in of_both(lot, other) if is_shut_at(plan, (lot, other, one), goal)][0]
            for how in hows(plan, keeper):
                way, key = (lot, other, keeper, how), (keeper, how, goal)
                if key not in sums:
                    # Whatever the LOTS are, the SHEET is the same.
                    sums[key] = shut_sum(plan, way, goal)
                found.append((way, goal, sums[key]))
    return tuple(found)


def _pairs(plan):
    return [(lot, other) for lot in plan[0] for other in plan[0]]


def is_proof(plan, locks, language, thing):
    """Whether thing is a PROOF."""
    plan = tupled(plan)
    if not _all_keep(plan) or not isinstance(thing, tuple):
        return False
    known, told = ways(plan), {}
    for part in thing:
        if not is_row(3, part) or not _is_way(plan, known, part[0]) or part[1] not in ("look", "store"):
            return False
        way, goal, weights = part
        if not has_sheet(way) or not is_way_shut(plan, way, goal) or not _is_shut_sum(plan, way, goal, weights):
            return False
        told[(way, goal)] = True
    return all([_is_proven(plan, pair, goal, told) for goal in _goals(plan, locks, language) for pair in _pairs(plan)])


def _is_way(plan, known, thing):
    """Whether thing is one of the WAYS known, by the very kinds of its numbers."""
    if not is_row(4, thing) or not is_count(thing[2]):
        return False
    return all([is_lot(len(plan[1]), lot) for lot in thing[:2]]) and thing in known


def _is_shut_sum(plan, way, goal, thing):
    """Whether thing is a SUM by which a WAY is shut."""
    start, end = way_ends(plan, way, goal)
    return is_no_way(with_ties(sheet(plan, way, goal), ((end, start, ZERO),)), thing)


def _is_proven(plan, pair, goal, told):
    """Whether all WAYS of some keeper of a pair of LOTS are told."""
    for keeper in of_both(pair[0], pair[1]):
        if all([(pair + (keeper, how), goal) in told for how in hows(plan, keeper)]):
            return True
    return False


def bad_run(plan, locks, language):
    """A bad RUN within them of clients 0 and 1, locks 0 and 1; CanNot() if plan is right."""
    plan = tupled(plan)
    why = reasons(plan, locks, language)
    if why == ():
        raise CanNot()
    if "keeps" in why:
        return _done_twice(plan)
    goal = "store" if "store" in why else "look"
    lot, other = open_pairs(plan, goal)[0]
    run = open_run(plan, lot, other, goal)
    if goal == "store":
        return run
    return crossing(run if language == "looks" else _with_deed(plan, run))


def _done_twice(plan):
    """A RUN in which a store that falls does the same deed of client 0 again."""
    staging, client = Staging(plan, 1), ("client", 0)
    place = [place for place, (_, keeps) in enumerate(plan[5]) if not keeps][0]
    staging.do(client, ("ask", 0))
    staging.tell(client, 0)
    staging.believe(client, 0)
    staging.do_twice(client, ("deed", 0, place, ("get",)))
    return staging.course.run()


def _with_deed(plan, run):
    """A RUN with a late look up to that, and in its place a deed that is let and done."""
    at = [place for place, event in enumerate(run) if event[3][0] == "look"][0]
    house, moment, reading, _ = run[at]
    deed, send = (house, moment, reading, ("deed", 0, 0, ("get",))), (house, moment, reading, ("send",))
    return run[:at] + (deed, send, (("store", 0, 0), plus(moment, plan[3][2][0]), None, ("take", at + 1)))


def crossing(run):
    """Each EVENT and its mirror right behind it; Unfit() if others than locks and clients 0 and 1 occur."""
    found = []
    for house, moment, reading, act in tupled(run):
        if not _is_of_two(house, act):
            raise Unfit()
        mirrored = act
        if act[0] == "take":
            act, mirrored = ("take", 2 * act[1]), ("take", 2 * act[1] + 1)
        elif _has_lock(act):
            mirrored = (act[0], OTHER_ONE[act[1]]) + act[2:]
        found.extend([(house, moment, reading, act), (_mirrored(house), moment, reading, mirrored)])
    return tuple(found)


def _is_of_two(house, act):
    """Whether a house and an act are of the clients 0 and 1 and the locks 0 and 1."""
    if house[0] != "keeper" and house[1] > 1:
        return False
    return not _has_lock(act) or act[1] <= 1


def _mirrored(house):
    if house[0] == "keeper":
        return house
    return (house[0], OTHER_ONE[house[1]]) + house[2:]


def must_ask(plan):
    """The set of the places of the stores that must ask, for one lock; CanNot() if some store does not keep."""
    if not _all_keep(plan):
        raise CanNot()
    return () if open_pairs(plan, "store") == () else tuple(range(len(plan[5])))
