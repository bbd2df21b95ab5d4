"""WAYS from a hold to a later one: how far two clients' beliefs can overlap."""

from plainlock.errors import CanNot, Unfit
from plainlock.forms import is_place, is_row, tupled
from plainlock.fractions import ONE, ZERO, greatest, less, negative, over, sum_of, times
from plainlock.meetings import meeting
from plainlock.plans import can_hold, check_keeper, setting
from plainlock.runs import machine_of
from plainlock.sheets import no_way, with_ties

# By these a hold ends as late as one likes.
ENDLESS = ("forgotten", "late grant", "revived")
MINUS_ONE = (-1, 1)
# The LEG of each letter of a SHEET, by the names of its two events.
LETTERS = (("A", "B", 0), ("B", "C", 1), ("R", "X", 0), ("S", "P", 2), ("P", "Z", 3), ("G", "T", 1), ("T", "U", 2),
           ("U", "V", 3), ("W", "Q", 2))


def hows(plan, keeper):
    """The set of how this keeper can end a hold; NoPlace(keeper) if there is none."""
    check_keeper(plan, keeper)
    length, record, _ = plan[1][keeper]
    faults = plan[6]
    found = ["release"]
    if length is not None:
        found.append("lapse")
    if record == "number":
        found.append("fall")
    for fault, how in (("bare release", "elder release"), ("bare grant", "late grant"), ("forgets", "forgotten"),
                       ("revives", "revived")):
        if fault in faults:
            found.append(how)
    return tuple(sorted(found))


def ways(plan):
    """The set of all WAYS."""
    found = []
    for lot in tupled(plan[0]):
        for other in tupled(plan[0]):
            for keeper in of_both(lot, other):
                found.extend([(lot, other, keeper, how) for how in hows(plan, keeper)])
    return tuple(sorted(found))


def of_both(lot, other):
    """The keepers of both LOTS."""
    return [keeper for keeper in lot if keeper in other]


def checked_way(plan, way):
    """way as a tuple; Unfit() if it is none of the WAYS."""
    way = tupled(way)
    if not is_row(4, way):
        raise Unfit()
    lot, other, keeper, how = way
    _check_lots(plan, lot, other)
    if not is_place(len(plan[1]), keeper) or keeper not in of_both(lot, other) or how not in hows(plan, keeper):
        raise Unfit()
    return way


def _check_lots(plan, lot, other):
    lots = tupled(plan[0])
    if tupled(lot) not in lots or tupled(other) not in lots:
        raise Unfit()


def overlap(plan, way, goal):
    """The overlap of a WAY; None if it is endless; Unfit() if way is none."""
    terms = overlap_terms(plan, checked_way(plan, way), goal)
    if terms is None:
        return None
    worths = [(setting(plan, name), x) for name, x in terms]
    if any([worth is None for worth, _ in worths]):
        return None
    return sum_of([times(worth, x) for worth, x in worths])


def overlap_terms(plan, way, goal):
    """Pairs of a SETTING and how many times it is in overlap; None for a way that is endless."""
    keeper, how = way[2:]
    if how in ENDLESS:
        return None
    found = [(("least", "ask"), MINUS_ONE), (("least", "grant"), MINUS_ONE)]
    if how != "release":
        found = _belief_terms(plan)
        per_reading = negative(over(ONE, plan[2][1][1]))
        if how == "lapse":
            found.append((("length", keeper), per_reading))
        if how == "fall":
            found.append((("grace", keeper), per_reading))
    back = [(("least", "deed"), MINUS_ONE), (("least", "back"), MINUS_ONE)]
    if goal == "store" and how == "release" and plan[4][3] == "waits":
        found.extend(back)
    elif goal == "store":
        found.extend([(("most", "deed"), ONE), (("least", "deed"), MINUS_ONE)])
        if how != "release":
            found.append((("stop",), ONE))
    return found + back if plan[4][4] else found


def _belief_terms(plan):
    """How long at most a client goes on to believe behind the keeper's grant, and the next grant's way."""
    found = [(("term",), over(ONE, plan[2][0][0]))]
    if plan[4][1] == "sent":
        return found + [(("least", "ask"), MINUS_ONE), (("least", "grant"), MINUS_ONE)]
    return found + [(("most", "grant"), ONE), (("least", "grant"), MINUS_ONE)]


def has_sheet(way):
    """Whether a WAY has a SHEET."""
    return way[3] in ("lapse", "fall", "release")


def sheet(plan, way, goal):
    """The SHEET of a WAY; Unfit() if way is none, CanNot() without one."""
    way = checked_way(plan, way)
    if not has_sheet(way):
        raise CanNot()
    plan = tupled(plan)
    names = _event_names(plan, way[3], goal)
    places = {name: place for place, (name, _) in enumerate(names)}
    clients, keepers = plan[2]
    clocks = (clients, keepers, clients, (ONE, ONE), (ONE, ONE))
    letters = []
    for start, end, leg in LETTERS:
        if start in places and end in places:
            letters.append((places[start], places[end]) + plan[3][leg])
    stop, ties = plan[4][2], ()
    if "S" in places and stop is not None:
        ties = ((places["D"], places["S"], stop),)
    events = tuple([house for _, house in names])
    return (clocks, events, tuple(letters), _spans(plan, way, places), ties)


def _event_names(plan, how, goal):
    """The events of a SHEET in their order: pairs of name and house."""
    found = [("A", 0), ("B", 1), ("C", 0), ("D", 0)]
    if goal == "store":
        found.extend([("S", 0), ("P", 3)])
        if how == "release" and plan[4][3] == "waits":
            found.append(("Z", 0))
    if how == "release":
        found.append(("R", 0))
    if how != "lapse":
        found.append(("X", 1))
    found.extend([("G", 1), ("T", 2)])
    if plan[4][4]:
        found.extend([("U", 4), ("V", 2)])
    if goal == "store":
        found.extend([("W", 2), ("Q", 4)])
    return found


def _spans(plan, way, places):
    length, _, grace = plan[1][way[2]]
    found = []
    if way[3] == "lapse":
        found.append((places["B"], places["G"], length, None))
    if way[3] == "fall":
        found.append((places["X"], places["G"], grace, None))
    start = "C" if plan[4][1] == "taken" else "A"
    found.append((places[start], places["D"], ZERO, plan[4][0]))
    return tuple(found)


def way_ends(plan, way, goal):
    """The places of the two events of its SHEET between which overlap lies; errors as sheet."""
    way = checked_way(plan, way)
    if not has_sheet(way):
        raise CanNot()
    names = [name for name, _ in _event_names(plan, way[3], goal)]
    if goal == "store":
        return (names.index("Q"), names.index("P"))
    return (names.index("V" if plan[4][4] else "T"), names.index("D"))


def shut_sum(plan, way, goal):
    """A SUM by which a WAY is shut; Unfit() if way is none, CanNot() if it has none."""
    way = checked_way(plan, way)
    if not has_sheet(way) or not is_way_shut(plan, way, goal):
        raise CanNot()
    start, end = way_ends(plan, way, goal)
    return no_way(with_ties(sheet(plan, way, goal), ((end, start, ZERO),)))


def widest(plan, lot, other, goal):
    """The least of what the keepers of both LOTS let beliefs overlap; None for endless, or without any."""
    _check_lots(plan, lot, other)
    found = None
    for keeper in of_both(lot, other):
        width = _widest_at(plan, (lot, other, keeper), goal)
        if found is None or (width is not None and less(width, found)):
            found = width
    return found


def _widest_at(plan, start, goal):
    """The greatest overlap of the WAYS that begin so; None if one is endless."""
    widths = [overlap(plan, start + (how,), goal) for how in hows(plan, start[2])]
    return None if any([width is None for width in widths]) else greatest(widths)


def is_way_shut(plan, way, goal):
    """Whether the overlap of a WAY is told and below 0."""
    width = overlap(plan, way, goal)
    return width is not None and less(width, ZERO)


def is_shut_at(plan, start, goal):
    """Whether the WAYS that begin with these LOTS and this keeper of both are all shut so."""
    return all([is_way_shut(plan, start + (how,), goal) for how in hows(plan, start[2])])


def open_pairs(plan, goal):
    """The set of the open pairs of LOTS."""
    lots = tupled(plan[0])
    return tuple([(lot, other) for lot in lots for other in lots if is_open(plan, lot, other, goal)])


def is_open(plan, lot, other, goal):
    """Whether this pair of LOTS is open."""
    if not can_hold(plan):
        return False
    width = widest(plan, lot, other, goal)
    return width is None or not less(width, ZERO)


def late_look(plan, run):
    """(told, look): the first late look and the first telling of a greater number; None without one."""
    standing, tellings = {}, []
    for number, entries in enumerate(machine_of(plan, run).entries()):
        for house, entry in entries:
            if house[0] != "client":
                continue
            if entry[0] == "told":
                standing[(house, entry[1])] = entry[2]
                tellings.append((number, entry[1], entry[2]))
            elif entry[0] == "deed" or (entry[0] == "look" and entry[2]):
                own = standing[(house, entry[1])]
                for told, lock, other in tellings:
                    if lock == entry[1] and other > own:
                        return (told, number)
    return None


def open_run(plan, lot, other, goal):
    """A RUN with a late look, or late deed, of client 0 by lot behind client 1 by other.

    Unfit() if these are no LOTS of plan; CanNot() if the pair is not open, or,
    for "store", every store asks.
    """
    plan, lot, other = tupled(plan), tupled(lot), tupled(other)
    _check_lots(plan, lot, other)
    if not is_open(plan, lot, other, goal):
        raise CanNot()
    eager = [place for place, (asks, _) in enumerate(plan[5]) if not asks]
    if goal == "store" and not eager:
        raise CanNot()
    return meeting(plan, lot, other, eager[0] if goal == "store" else None)
