"""LOTS of keepers: which rosters of them are right, by tickets alone, without clocks."""

from itertools import combinations

from plainlock.errors import CanNot, Unfit
from plainlock.forms import goes_up, is_count, is_place, is_row, is_tuple_of, tupled
from plainlock.graphs import least_order, some_circle

# Keepers and stores are numbers below these here.
KEEPERS = 7
STORES = 20


def is_roster(thing):
    """Whether thing is a ROSTER."""
    return is_tuple_of(_is_lot, thing) and thing != () and goes_up(thing)


def _is_lot(thing):
    return is_keepers(thing) and thing != ()


def is_keepers(thing):
    """Whether thing is a set of keepers."""
    return is_tuple_of(_is_keeper, thing) and goes_up(thing)


def _is_keeper(thing):
    return is_place(KEEPERS, thing)


def is_ticket_run(roster, kept, thing):
    """Whether thing is a TICKET RUN."""
    roster, kept = tupled(roster), tupled(kept)
    if not is_row(2, thing) or not is_tuple_of(_is_step, thing[1]):
        return False
    holds, steps = thing
    if not isinstance(holds, tuple) or not all([is_place(len(roster), place) for place in holds]):
        return False
    # What is still to be granted of each hold.
    left = [{keeper: True for keeper in roster[place]} for place in holds]
    for step in steps:
        if not _is_let(kept, left, step):
            return False
        if step[0] == "grant":
            left[step[1]].pop(step[2])
    return not any(left)


def _is_step(thing):
    """Whether thing has the form of a step."""
    if is_row(2, thing):
        return thing[0] == "forget" and _is_keeper(thing[1])
    if not is_row(3, thing) or not is_count(thing[1]):
        return False
    return (thing[0] == "grant" and _is_keeper(thing[2])) or (thing[0] == "deed" and is_place(STORES, thing[2]))


def _is_let(kept, left, step):
    """Whether a step may come, where this is left to be granted of each hold."""
    if step[0] == "forget":
        return step[1] not in kept
    if step[1] >= len(left):
        return False
    if step[0] == "grant":
        return step[2] in left[step[1]]
    return not left[step[1]]


def is_circle(rows, thing):
    """Whether thing is a CIRCLE of DEED ROWS."""
    rows = tupled(rows)
    if not is_tuple_of(is_count, thing) or len(thing) < 2 or len(set(thing)) != len(thing):
        return False
    return all([_is_ahead(rows, one, other) for one, other in zip(thing, thing[1:] + thing[:1])])


def _is_ahead(rows, one, other):
    """Whether some row has the one hold somewhere ahead of the other."""
    return any([one in row and other in row[row.index(one) + 1:] for row in rows])


def shared(one, other, kept):
    """The set of the keepers of KEPT that both LOTS have."""
    return tuple([keeper for keeper in sorted(one) if keeper in other and keeper in kept])


def meets(roster, kept):
    """Whether the ROSTER is right for KEPT."""
    return _apart(roster, kept) == []


def not_meeting(roster, kept):
    """The least pair of LOTS that do not meet; CanNot() if the ROSTER is right."""
    found = _apart(roster, kept)
    if not found:
        raise CanNot()
    return found[0]


def _apart(roster, kept):
    """The pairs (one, other) of LOTS, one <= other, that do not meet, ascending."""
    roster = tupled(roster)
    pairs = [(one, other) for one in roster for other in roster if one <= other]
    return [pair for pair in pairs if not shared(pair[0], pair[1], kept)]


def had(roster, down):
    """Whether some LOT has none of these keepers."""
    return any([not any([keeper in down for keeper in lot]) for lot in roster])


def fewest_apart(roster, kept):
    """The fewest LOTS that share no keeper of KEPT all together; CanNot() if all share one."""
    roster = tupled(roster)
    for many in range(1, len(roster) + 1):
        for lots in combinations(list(roster), many):
            if not _in_all(lots, kept):
                return lots
    raise CanNot()


def _in_all(lots, kept):
    """The keepers of KEPT that all these LOTS have."""
    return [keeper for keeper in kept if all([keeper in lot for lot in lots])]


def ticket_rows(roster, kept, run):
    """The DEED ROWS; Unfit() if run is no TICKET RUN."""
    run = tupled(run)
    if not is_ticket_run(roster, kept, run):
        raise Unfit()
    counters, tickets = {}, [{} for _ in run[0]]
    many = max([step[2] + 1 for step in run[1] if step[0] == "deed"], default=0)
    rows, known = [[] for _ in range(many)], [{} for _ in range(many)]
    for step in run[1]:
        if step[0] == "forget":
            counters[step[1]] = 0
        elif step[0] == "grant":
            counters[step[2]] = counters.get(step[2], 0) + 1
            tickets[step[1]][step[2]] = counters[step[2]]
        elif _takes(known[step[2]], tickets[step[1]]):
            rows[step[2]].append(step[1])
    return tuple([tuple(row) for row in rows])


def _takes(known, own):
    """Whether a store does a deed with these tickets; it knows them then, too."""
    if any([own[keeper] < known.get(keeper, 0) for keeper in own]):
        return False
    for keeper in own:
        known[keeper] = own[keeper]
    return True


def order_of(rows):
    """The least ORDER of DEED ROWS; CanNot() if there is none."""
    order = least_order(_links(rows))
    if order is None:
        raise CanNot()
    return tuple(order)


def circle_of(rows):
    """A CIRCLE of DEED ROWS; CanNot() if there is none."""
    circle = some_circle(_links(rows))
    if circle is None:
        raise CanNot()
    return circle


def _links(rows):
    """For each hold a dict of those right behind it in some row."""
    later = {}
    for row in rows:
        for hold in row:
            later.setdefault(hold, {})
        for one, other in zip(row, row[1:]):
            if one != other:
                later[one][other] = True
    return later


def circle_run(roster, kept):
    """A TICKET RUN with a CIRCLE of all its holds, as many as guaranteed; CanNot() if there is none."""
    roster = tupled(roster)
    lots = fewest_apart(roster, kept)
    if len(lots) == 1:
        lots = lots * 2
    steps = []
    for keeper in sorted(set([keeper for lot in lots for keeper in lot])):
        steps.extend(_grants(lots, keeper, keeper in kept))
    for hold in range(len(lots)):
        steps.append(("deed", hold, hold))
        steps.append(("deed", (hold + 1) % len(lots), hold))
    return (tuple([roster.index(lot) for lot in lots]), tuple(steps))


def _grants(lots, keeper, is_kept):
    """The grants of one keeper such that no deed of the circle bears a lesser ticket than the one ahead."""
    has = [keeper in lot for lot in lots]
    if not is_kept:
        # It forgets ahead of each grant: all get its ticket 1.
        found = []
        for hold in range(len(lots)):
            if has[hold]:
                found.extend([("forget", keeper), ("grant", hold, keeper)])
        return found
    # Some hold has no ticket of it: from there around the circle they go up.
    start = has.index(False)
    holds = list(range(start, len(lots))) + list(range(start))
    return [("grant", hold, keeper) for hold in holds if has[hold]]


def better(roster, kept, keepers):
    """The least of the smallest sets below keepers that meet each LOT and hold none.

    Unfit() if the ROSTER is not right or has, or KEPT has, a keeper not below
    keepers; CanNot() if there is none.
    """
    if not meets(roster, kept) or any([keeper >= keepers for lot in list(roster) + [kept] for keeper in lot]):
        raise Unfit()
    for many in range(1, keepers + 1):
        for lot in combinations(range(keepers), many):
            if _is_better(roster, kept, lot):
                return lot
    raise CanNot()


def _is_better(roster, kept, lot):
    if not all([shared(lot, other, kept) for other in roster]):
        return False
    return not any([all([keeper in lot for keeper in other]) for other in roster])


def roster_for(keepers, downs, forgets):
    """The ROSTER of what each of DOWNS leaves of the keepers below keepers.

    CanNot() if two of DOWNS and one of FORGETS are all of them.
    """
    if _covers(keepers, downs, forgets):
        raise CanNot()
    lots = [tuple([keeper for keeper in range(keepers) if keeper not in down]) for down in downs]
    return tuple(sorted(set(lots)))


def cover(keepers, downs, forgets):
    """The least triple (one, other, forgotten) of them that are all keepers; CanNot() if there is none."""
    found = _covers(keepers, downs, forgets)
    if not found:
        raise CanNot()
    return found[0]


def _covers(keepers, downs, forgets):
    downs, forgets = tupled(downs), tupled(forgets)
    found = []
    for one in downs:
        for other in downs:
            for forgotten in forgets:
                both = one + other + forgotten
                if all([keeper in both for keeper in range(keepers)]):
                    found.append((one, other, forgotten))
    return sorted(found)
