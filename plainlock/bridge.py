"""From PLANS to VIEWS: the LOG of a RUN, and which looks are sure."""

from plainlock.diaries import Diary
from plainlock.errors import CanNot, NoPlace
from plainlock.forms import is_place, is_row, tupled
from plainlock.plans import can_hold, check_keeper
from plainlock.promises import keepers_with, surely_with
from plainlock.runs import is_run, machine_of
from plainlock.unsure import Unsure
from plainlock.views import view_of
from plainlock.ways import is_shut_at

# The leg of letters that a PLAN does not know.
NO_LEG = ((1, 1), None, False)


def _checked(plan):
    """plan as a tuple; CanNot() if it has faults or is sealed."""
    plan = tupled(plan)
    if plan[6] != () or plan[4][4]:
        raise CanNot()
    return plan


def world_of(plan):
    """The WORLD of plan; CanNot() if that has faults or is sealed, here and in what follows."""
    lots, keepers, clocks, legs, _, _, _ = _checked(plan)
    kept = tuple([(record == "all", grace) for _, record, grace in keepers])
    return (clocks, (legs[0] + (False,), legs[1] + (False,), NO_LEG, NO_LEG), kept, ((0, 1), (0, 1)), lots)


def _diary(plan, run, lock):
    """The Diary of a RUN; CanNot(), then Unfit() if run is none."""
    plan, run = _checked(plan), tupled(run)
    machine_of(plan, run)
    return Diary(plan, run, lock)


def log_of(plan, run, lock):
    """The LOG of run and lock; Unfit() if run is no RUN, here and in what follows."""
    return tuple(_diary(plan, run, lock).log)


def log_moments(plan, run, lock):
    """The moments of its ENTRIES."""
    return tuple(_diary(plan, run, lock).moments)


def looks(plan, run, lock):
    """The set of the places of its looks."""
    return tuple(_diary(plan, run, lock).beliefs)


def _look_at(plan, run, lock, place):
    """The Diary of a RUN with a look at this place; NoPlace(place) if none is there."""
    diary = _diary(plan, run, lock)
    if place not in diary.beliefs:
        raise NoPlace(place)
    return diary


def believed_by(plan, run, lock, place):
    """The set of the LOTS by which the client believes at the look at this place; NoPlace(place)."""
    return _look_at(plan, run, lock, place).beliefs[place]


def surely_at(plan, run, lock, place):
    """The set of the keepers surely with the VIEW of the look at this place; NoPlace(place)."""
    log = tuple(_look_at(plan, run, lock, place).log)
    return surely_with(world_of(plan), view_of(log, place))


def shut_keepers(plan):
    """The set of those keepers of some LOT that are shut."""
    plan = _checked(plan)
    return tuple([keeper for keeper in range(len(plan[1])) if _lot_with(plan, keeper) and _is_shut(plan, keeper)])


def _lot_with(plan, keeper):
    """The first LOT that has this keeper; () without one."""
    for lot in plan[0]:
        if keeper in lot:
            return lot
    return ()


def _is_shut(plan, keeper):
    """Whether no WAY of a keeper of some LOT is open for "look"."""
    lot = _lot_with(plan, keeper)
    return not can_hold(plan) or is_shut_at(plan, (lot, lot, keeper), "look")


def unsure_run(plan, keeper):
    """A RUN and a place of looks at which its client believes by a keeper that is not with it.

    NoPlace(keeper) if there is no such keeper; CanNot() if it is shut or in no LOT.
    """
    plan = _checked(plan)
    check_keeper(plan, keeper)
    lot = _lot_with(plan, keeper)
    if lot == () or _is_shut(plan, keeper):
        raise CanNot()
    run = Unsure(plan, lot, keeper).run()
    return (run, looks(plan, run, 0)[-1])


def is_unsure_run(plan, keeper, thing):
    """Whether thing is such a pair; NoPlace(keeper) if there is no such keeper."""
    plan = _checked(plan)
    check_keeper(plan, keeper)
    if not is_row(2, thing) or not is_run(plan, thing[0]):
        return False
    run, place = thing
    diary = Diary(plan, run, 0)
    if not is_place(len(diary.log), place) or place not in diary.beliefs:
        return False
    if not any([keeper in lot for lot in diary.beliefs[place]]):
        return False
    return keeper not in keepers_with(world_of(plan), diary.log, diary.moments, place)
