"""Sure looks: which keepers cannot have let anybody else in by the time a look's deed is done."""

from plainlock.errors import NoPlace, Unfit
from plainlock.floors import Outlook, slack_of
from plainlock.forms import check_places, is_place, is_row, tupled
from plainlock.fractions import ZERO, greatest, least, less, minus, plus, times
from plainlock.logs import had_at
from plainlock.rings import chain, farthest, is_chain, is_schedule, length
from plainlock.strangers import Strangers
from plainlock.views import is_log, web_of_log


def slack(world):
    """The SLACK of a WORLD; None if it has none."""
    return slack_of(tupled(world))


def keepers_with(world, log, schedule, place):
    """The set of the keepers with the ENTRY at this place; () if it is a keeper's.

    NoPlace(place), then Unfit() if schedule is no SCHEDULE of log.
    """
    check_places(len(log), (place,))
    world, log, schedule = tupled(world), tupled(log), tupled(schedule)
    if not is_schedule(web_of_log(world, log), schedule):
        raise Unfit()
    return _with_there(world, log, schedule, place)


def _with_there(world, log, schedule, place):
    loose, had = slack_of(world), had_at(log, place)
    if loose is None:
        return ()
    limit = minus(schedule[place], loose)
    found = []
    for keeper in sorted(set([one for one, _ in had])):
        grants = [(at, act[1]) for at, (house, _, act) in enumerate(log)
                  if house == ("keeper", keeper) and act[0] == "grant"]
        last = max([at for at, number in grants if (keeper, number) in had])
        if all([at <= last or less(limit, schedule[at]) for at, _ in grants]):
            found.append(keeper)
    return tuple(found)


def covered(world, log, schedule, place):
    """Whether the ENTRY at this place is covered; errors as keepers_with."""
    return _hold_a_lot(world, keepers_with(world, log, schedule, place))


def _hold_a_lot(world, keepers):
    return any([all([keeper in keepers for keeper in lot]) for lot in world[4]])


def _outlook(world, view):
    """The Outlook of a VIEW; CanNot() if it ends with a keeper's ENTRY or does not FIT."""
    return Outlook(tupled(world), tupled(view))


def _outlook_at(world, view, keeper):
    """The Outlook of a VIEW; NoPlace(keeper) ahead of CanNot()."""
    if not is_place(len(world[2]), keeper):
        raise NoPlace(keeper)
    return _outlook(world, view)


def endings(world, view, keeper):
    """The tuple of the ENDINGS of a keeper; NoPlace(keeper), CanNot(), then Unfit() if view has no grant of it."""
    outlook = _outlook_at(world, view, keeper)
    if outlook.pledge(keeper).newest is None:
        raise Unfit()
    return tuple([ending for _, ending in outlook.endings(keeper)])


def is_cut(world, view, floor):
    """Whether a FLOOR of a VIEW is CUT; CanNot() as endings."""
    return _outlook(world, view).is_cut(tupled(floor))


def surely_with(world, view):
    """The set of the keepers surely with a VIEW; CanNot() as endings."""
    return _outlook(world, view).surely_with()


def is_sure(world, view):
    """Whether a VIEW is sure; CanNot() as endings."""
    return _hold_a_lot(world, surely_with(world, view))


def chains(world, view, keeper):
    """For each ENDING a FLOOR of it and a CHAIN by which it is CUT.

    NoPlace(keeper), CanNot(), then Unfit() if the keeper is not surely with it.
    """
    outlook = _outlook_at(world, view, keeper)
    if not outlook.is_surely_with(keeper):
        raise Unfit()
    found = []
    for j, (_, ending) in zip(outlook.cut_places(keeper), outlook.endings(keeper)):
        found.append((j, chain(outlook.web, ending[j][0], outlook.end)))
    return tuple(found)


def is_chains(world, view, keeper, thing):
    """Whether thing is what chains could tell; NoPlace(keeper), then CanNot()."""
    outlook = _outlook_at(world, view, keeper)
    if not outlook.is_surely_with(keeper):
        return False
    told = outlook.endings(keeper)
    if not is_row(len(told), thing):
        return False
    return all([_is_chain_to(outlook, ending, pair) for pair, (_, ending) in zip(thing, told)])


def _is_chain_to(outlook, ending, thing):
    """Whether thing is the place of a FLOOR of an ENDING and a CHAIN by which that is CUT."""
    if not is_row(2, thing) or not is_place(len(ending), thing[0]):
        return False
    place, number = ending[thing[0]]
    if not is_chain(outlook.web, place, outlook.end, thing[1]):
        return False
    return less(length(outlook.web, thing[1]), plus(number, outlook.slack))


def worst(world, view):
    """A LOG that looks the same and its SCHEDULE, with just the keepers surely with view; CanNot() as endings."""
    outlook = _outlook(world, view)
    strangers = Strangers(outlook)
    if outlook.slack is not None:
        for keeper in range(len(outlook.world[2])):
            if outlook.has_newest(keeper) and not outlook.is_surely_with(keeper):
                strangers.let_in(keeper)
    return (tuple(strangers.log), tuple(strangers.moments))


def is_worst(world, view, thing):
    """Whether thing is what worst could tell; CanNot() as endings."""
    outlook = _outlook(world, view)
    if not is_row(2, thing):
        return False
    log, moments = thing
    many = outlook.end + 1
    if not is_log(outlook.world, log) or log[:many] != outlook.view:
        return False
    if not is_schedule(web_of_log(outlook.world, log), moments):
        return False
    return _with_there(outlook.world, log, moments, outlook.end) == outlook.surely_with()


def first_unsure(world, view):
    """The least reading, not below the last, at which a look right behind would not be sure; None without one."""
    outlook = _outlook(world, view)
    house, reading, _ = outlook.view[-1]
    later = Outlook(outlook.world, outlook.view + ((house, reading, ("look",)),))
    last = outlook.end
    # The web without what ties the look to the ENTRY ahead of it: so far these tell nothing of the reading.
    loose = (later.web[0], tuple([tie for tie in later.web[1] if sorted(tie[:2]) != [last, last + 1]]))
    lots = [[_lost_at(later, loose, keeper) for keeper in lot] for lot in outlook.world[4]]
    ends = [_least_told(growths) for growths in lots]
    if None in ends:
        return None
    # With so much growth it still FITS: what has to be heard by then would keep all CUT if it did not.
    return plus(reading, greatest(ends))


def _least_told(growths):
    """The least of growths that are told; None if none is."""
    return least([growth for growth in growths if growth is not None])


def _lost_at(outlook, loose, keeper):
    """By how much the reading has to grow till this keeper is not surely with the look; None if it always is."""
    if outlook.slack is None or not outlook.has_newest(keeper):
        return ZERO
    growths = []
    for _, ending in outlook.endings(keeper):
        uncut = [_uncut_at(outlook, loose, floor) for floor in ending]
        growths.append(None if None in uncut else greatest(uncut))
    return _least_told(growths)


def _uncut_at(outlook, loose, floor):
    """By how much the reading has to grow till a FLOOR is not CUT; None if it always is."""
    place, number = floor
    limit = plus(number, outlook.slack)
    straight = farthest(loose, place, outlook.end)
    if straight is not None and less(straight, limit):
        return None
    by_reading = farthest(loose, place, outlook.end - 1)
    if by_reading is None:
        return ZERO
    slow = outlook.world[0][0][0]
    return greatest([ZERO, times(slow, minus(limit, by_reading))])
