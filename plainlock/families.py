"""FAMILIES of PLANS: FORMS for what hangs on the TIMES that grow."""

from plainlock.forms import tupled
from plainlock.fractions import ONE, over, plus, sum_of, times
from plainlock.plans import replaced, setting, times_of
from plainlock.regions import turned
from plainlock.sides import is_flat
from plainlock.ways import hows, of_both, overlap_terms

MINUS_ONE = (-1, 1)
ALWAYS = ("all", ())
NEVER = ("any", ())


def plan_grown(family, values):
    """The plan of a FAMILY at VALUES, be that a PLAN or not."""
    plan, moves = tupled(family)
    for unknown, name, share in moves:
        plan = replaced(plan, name, plus(setting(plan, name), times(share, values[unknown])))
    return plan


def form_of(unknowns, family, terms):
    """The FORM for a sum of TIMES, of pairs (name, how many times), each grown as in the FAMILY."""
    plan, moves = family
    form = [sum_of([times(setting(plan, name), x) for name, x in terms])]
    for unknown in range(unknowns):
        grown = []
        for name, x in terms:
            grown.extend([times(x, share) for other, moved, share in moves if other == unknown and moved == name])
        form.append(sum_of(grown))
    return tuple(form)


def way_form(unknowns, family, way, goal):
    """The FORM for overlap of a WAY; None if that is endless."""
    plan = family[0]
    terms = overlap_terms(plan, way, goal)
    if terms is None or any([setting(plan, name) is None for name, _ in terms]):
        return None
    return form_of(unknowns, family, terms)


def all_of(parts):
    """The CONDITION that all parts hold, without what is clear by itself."""
    return _joined("all", ALWAYS, NEVER, parts)


def any_of(parts):
    """The CONDITION that some part holds, without what is clear by itself."""
    return _joined("any", NEVER, ALWAYS, parts)


def _joined(word, empty, decided, parts):
    found = []
    for part in parts:
        if part == decided:
            return decided
        for inner in part[1] if part[0] == word else [part]:
            if inner not in found:
                found.append(inner)
    if not found:
        return empty
    return found[0] if len(found) == 1 else (word, tuple(found))


def below(form):
    """The CONDITION that a FORM is below 0."""
    if is_flat(form):
        return ALWAYS if form[0][0] < 0 else NEVER
    return ("below", form)


def at_least(form):
    """The CONDITION that a FORM is from 0."""
    if is_flat(form):
        return NEVER if form[0][0] < 0 else ALWAYS
    return ("from", form)


def is_plan_where(unknowns, family):
    """A CONDITION that holds where the plan of the FAMILY is a PLAN."""
    plan = family[0]
    parts = []
    for name in times_of(plan):
        form = form_of(unknowns, family, ((name, ONE),))
        if name[0] == "least":
            # Only these have to be above 0, and at most their most.
            parts.append(below(turned(form)))
            if setting(plan, ("most", name[1])) is not None:
                parts.append(at_least(form_of(unknowns, family, ((name, MINUS_ONE), (("most", name[1]), ONE)))))
        elif name[0] != "most":
            parts.append(at_least(form))
    return all_of(parts)


def no_hold_where(unknowns, family):
    """A CONDITION that holds where no hold can be had."""
    plan = family[0]
    if plan[4][1] == "taken" or "bare grant" in plan[6]:
        return NEVER
    terms = ((("term",), over(ONE, plan[2][0][0])), (("least", "ask"), MINUS_ONE), (("least", "grant"), MINUS_ONE))
    return below(form_of(unknowns, family, terms))


def shut_where(unknowns, family, goal):
    """A CONDITION that holds where no pair of LOTS is open, if a hold can be had."""
    plan = family[0]
    return all_of([_shut_pair(unknowns, family, keepers, goal) for keepers in _least_meetings(plan[0])])


def _least_meetings(lots):
    """The sets of keepers of both of two LOTS, but those that have another one in them."""
    sets = sorted(set([tuple(of_both(lot, other)) for lot in lots for other in lots]))
    return [keepers for keepers in sets if not any([_is_part(other, keepers) for other in sets if other != keepers])]


def _is_part(other, keepers):
    return all([keeper in keepers for keeper in other])


def _shut_pair(unknowns, family, keepers, goal):
    """A CONDITION that holds where all WAYS of one of these keepers are shut."""
    parts = []
    for keeper in keepers:
        forms = [way_form(unknowns, family, ((), (), keeper, how), goal) for how in hows(family[0], keeper)]
        parts.append(all_of([NEVER if form is None else below(form) for form in forms]))
    return any_of(parts)


def right_condition(unknowns, family, locks, language):
    """A CONDITION that holds where the plan of the FAMILY is a PLAN, and right."""
    plan = family[0]
    needs = []
    if not all([keeps for _, keeps in plan[5]]):
        needs.append(NEVER)
    if not all([asks for asks, _ in plan[5]]):
        needs.append(shut_where(unknowns, family, "store"))
    if locks >= 2 and not (language == "deeds" and plan[4][4]):
        needs.append(shut_where(unknowns, family, "look"))
    right = any_of([no_hold_where(unknowns, family), all_of(needs)])
    return all_of([is_plan_where(unknowns, family), right])
