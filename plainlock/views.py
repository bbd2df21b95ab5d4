"""LOGS and VIEWS: what a house can know of all others, and how old it is."""

from plainlock.forms import check_places, is_row, is_truth, is_tuple_of, tupled
from plainlock.fractions import is_from_zero, is_most, minus, negative, over
from plainlock.logs import LogReader, had_at, is_entry, rested_on, sent_to
from plainlock.plans import is_leg, is_lots
from plainlock.rings import farthest
from plainlock.sheets import is_clock

# Which of a WORLD's legs a letter goes by, by its two houses.
LEG_BETWEEN = {("client", "keeper"): 0, ("keeper", "client"): 1, ("client", "client"): 2, ("keeper", "keeper"): 3}


def is_world(thing):
    """Whether thing is a WORLD."""
    if not is_row(5, thing):
        return False
    clocks, legs, keepers, flight, lots = thing
    if not is_row(2, clocks) or not is_tuple_of(is_clock, clocks):
        return False
    if not is_row(4, legs) or not is_tuple_of(is_sure_leg, legs) or not is_tuple_of(is_kept_pair, keepers):
        return False
    return is_flight(flight) and is_lots(len(keepers), lots)


def is_flight(thing):
    """Whether thing is the flight of a WORLD."""
    return is_row(2, thing) and is_from_zero(thing[0]) and is_most(thing[0], thing[1])


def is_sure_leg(thing):
    """Whether thing is a leg of a WORLD."""
    if not is_row(3, thing) or not is_leg(thing[:2]) or not is_truth(thing[2]):
        return False
    return not thing[2] or thing[1] is not None


def is_kept_pair(thing):
    """Whether thing is what a WORLD tells of a keeper."""
    return is_row(2, thing) and is_truth(thing[0]) and is_from_zero(thing[1])


def is_log(world, thing):
    """Whether thing is a LOG of the WORLD."""
    if not isinstance(thing, tuple):
        return False
    reader = LogReader(world)
    for entry in thing:
        if not is_entry(len(world[2]), entry) or not reader.lets(entry):
            return False
        reader.add(entry)
    return True


def is_view(world, thing):
    """Whether thing is a VIEW of the WORLD."""
    return is_log(world, thing) and thing != () and len(rested_on(thing, len(thing) - 1)) == len(thing)


def web_of_log(world, log):
    """The web of a LOG."""
    clocks, legs = tupled(world)[:2]
    log = tupled(log)
    growths, letters, unheard, last, heard = [], [], [], {}, {}
    for b, (house, reading, act) in enumerate(log):
        if house in last:
            slow, fast = clocks[0 if house[0] == "client" else 1]
            growth = minus(reading, log[last[house]][1])
            growths.extend([(b, last[house], negative(over(growth, fast))), (last[house], b, over(growth, slow))])
        last[house] = b
        if act[0] == "hear":
            heard[act[1]] = True
            least, most, _ = legs[_leg(log[act[1]][0], house)]
            letters.append((b, act[1], negative(least)))
            if most is not None:
                letters.append((act[1], b, most))
    for a, entry in enumerate(log):
        house = sent_to(entry)
        if house in last and a not in heard and legs[_leg(entry[0], house)][2]:
            unheard.append((a, last[house], legs[_leg(entry[0], house)][1]))
    return (len(log), tuple(growths + letters + unheard))


def _leg(sender, house):
    return LEG_BETWEEN[(sender[0], house[0])]


def rests_on(log, place):
    """The set of places on which the ENTRY at this place rests; NoPlace(place)."""
    check_places(len(log), (place,))
    return rested_on(tupled(log), place)


def view_of(log, place):
    """The VIEW of the ENTRIES on which that at this place rests; NoPlace(place)."""
    check_places(len(log), (place,))
    log = tupled(log)
    places = rested_on(log, place)
    found = []
    for at in places:
        house, reading, act = log[at]
        if act[0] == "hear":
            act = ("hear", places.index(act[1]))
        found.append((house, reading, act))
    return tuple(found)


def has(log, place):
    """The set of pairs (keeper, number) of what the client of this ENTRY HAS there; NoPlace(place)."""
    check_places(len(log), (place,))
    return had_at(tupled(log), place)


def age(world, view, place):
    """The AGE of a place in a VIEW; None if there is no greatest.

    NoPlace(place); CanNot() if view does not FIT.
    """
    check_places(len(view), (place,))
    return farthest(web_of_log(world, view), place, len(view) - 1)
