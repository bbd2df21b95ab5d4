"""Borders: where lengths left open make a PLAN right, and what it costs to get there."""

from plainlock.cycles import forms_around
from plainlock.errors import CanNot, Unfit
from plainlock.families import NEVER, all_of, at_least, plan_grown, right_condition, way_form
from plainlock.forms import is_row, is_tuple_of, tupled
from plainlock.fractions import ONE, ZERO, is_fraction, less, minus, negative, over, whole
from plainlock.nearest import Search, going_cost
from plainlock.plans import is_plan
from plainlock.regions import value_of
from plainlock.sides import joined, reduced, view_of
from plainlock.trees import Tree, claim_of, is_form, is_grown
from plainlock.ways import checked_way


def is_condition(unknowns, thing):
    """Whether thing is a CONDITION."""
    if not is_row(2, thing):
        return False
    word, inside = thing
    if word in ("below", "from"):
        return is_form(unknowns, inside)
    if word not in ("all", "any") or not isinstance(inside, tuple):
        return False
    return all([is_condition(unknowns, part) for part in inside])


def comes_to(form, values):
    """What a FORM comes to at VALUES."""
    return value_of(form, values)


def holds(condition, values):
    """Whether a CONDITION holds at VALUES."""
    word, inside = condition
    if word == "below":
        return value_of(inside, values)[0] < 0
    if word == "from":
        return value_of(inside, values)[0] >= 0
    if word == "all":
        return all([holds(part, values) for part in inside])
    return any([holds(part, values) for part in inside])


def plan_at(family, values):
    """The plan of a FAMILY at VALUES; Unfit() if that is no PLAN."""
    plan = plan_grown(family, values)
    if not is_plan(plan):
        raise Unfit()
    return plan


def overlap_form(unknowns, family, way, goal):
    """The FORM for overlap of a WAY, each SETTING grown as in the FAMILY; None if that is None.

    Unfit() if way is no WAY of the FAMILY's plan.
    """
    family = tupled(family)
    return way_form(unknowns, family, checked_way(family[0], way), goal)


def right_where(unknowns, family, locks, language):
    """A CONDITION that holds at just those VALUES at which the plan is a PLAN, and right."""
    return right_condition(unknowns, tupled(family), locks, language)


def web_where(unknowns, many, ties):
    """A CONDITION that holds at just those VALUES at which the WEB of these TIES has a SCHEDULE."""
    forms = forms_around(unknowns, many, tupled(ties))
    if forms is None:
        return NEVER
    return all_of([at_least(form) for form in forms])


def stretches(condition, values, way):
    """The numbers t at which a CONDITION holds at values + t * way: the fewest (low, with_low, high, with_high)."""
    places = {}
    view = view_of(tupled(condition), True, places)
    view, roots, slopes = _on_line(view, list(places), values, way)
    # Of the numbers below each other's roots and at them every second is a root.
    held = [_is_held(view, slopes, at) for at in range(2 * len(roots) + 1)]
    found = []
    for at, is_so in enumerate(held):
        if is_so and (at == 0 or not held[at - 1]):
            last = at
            while last + 1 < len(held) and held[last + 1]:
                last += 1
            found.append(_low_end(roots, at) + _high_end(roots, last))
    return tuple(found)


def _on_line(view, forms, values, way):
    """(view, roots, slopes): where the FORMS come to 0 on a line, and for each the place of that and its slope."""
    roots, slopes = [], {}
    for place, form in enumerate(forms):
        start = value_of(form, values)
        slope = value_of((ZERO,) + form[1:], way)
        if slope[0] == 0:
            view = reduced(view, place, start[0] < 0)
        else:
            roots.append(negative(over(start, slope)))
            slopes[place] = (roots[-1], slope[0] > 0)
    roots = _ascending(roots)
    at = {root: 2 * k + 1 for k, root in enumerate(roots)}
    return view, roots, {place: (at[slopes[place][0]], slopes[place][1]) for place in slopes}


def _ascending(some):
    """FRACTIONS in their order, each once."""
    tops, below = whole(some)
    found = {top: x for top, x in zip(tops, some)}
    return [found[top] for top in sorted(found)]


def _is_held(view, slopes, at):
    """Whether a view holds at a root, where at is odd, or between two."""
    if view is True or view is False:
        return view
    word, inside = view
    if word == "all":
        return all([_is_held(part, slopes, at) for part in inside])
    if word == "any":
        return any([_is_held(part, slopes, at) for part in inside])
    root, is_rising = slopes[word]
    return (at < root if is_rising else at > root) == inside


def _low_end(roots, at):
    if at == 0:
        return (None, False)
    return (roots[(at - 1) // 2], (at & 1) == 1)


def _high_end(roots, at):
    if at == 2 * len(roots):
        return (None, False)
    return (roots[at // 2], (at & 1) == 1)


def tree(unknowns, condition, other):
    """A TREE for condition and other; CanNot() if there is none."""
    return Tree(unknowns, tupled(condition), tupled(other)).whole()


def apart(unknowns, condition, other):
    """VALUES at which condition holds and other does not; CanNot() if there are none."""
    places = {}
    view = joined(True, [view_of(tupled(condition), True, places), view_of(tupled(other), False, places)])
    found = Search(unknowns, (ZERO,) * unknowns, view, list(places)).some()
    if found is None:
        raise CanNot()
    return found


def is_tree(unknowns, condition, other, thing):
    """Whether thing is a TREE for condition and other."""
    view, forms = claim_of(tupled(condition), tupled(other))
    return is_grown(unknowns, view, {form: place for place, form in enumerate(forms)}, (), thing)


def mend(unknowns, condition, values, costs):
    """A MEND of condition from values; CanNot() if there is none."""
    places = {}
    view = view_of(tupled(condition), True, places)
    found = Search(unknowns, tupled(values), view, list(places)).nearest(tupled(costs))
    if found is None:
        raise CanNot()
    return found


def is_mend(unknowns, condition, values, costs, thing):
    """Whether thing is a MEND of condition from values."""
    if not is_row(3, thing) or not is_fraction(thing[0]):
        return False
    cost, border, inside = thing
    if not _is_values(unknowns, border) or not _is_values(unknowns, inside):
        return False
    if going_cost(values, border, costs) != cost or going_cost(values, inside, costs) is None:
        return False
    if not _holds_behind(condition, border, inside):
        return False
    # Where it holds all the way to border, nothing costs more than the least.
    return mend(unknowns, condition, values, costs)[0] == cost


def _is_values(unknowns, thing):
    return is_row(unknowns, thing) and is_tuple_of(is_fraction, thing)


def _holds_behind(condition, border, inside):
    """Whether a CONDITION holds at all border + t * (inside - border), t above 0 and at most 1."""
    way = tuple([minus(end, start) for start, end in zip(border, inside)])
    for low, _, high, with_high in stretches(condition, border, way):
        starts = low is None or not less(ZERO, low)
        if starts and (high is None or less(ONE, high) or (high == ONE and with_high)):
            return True
    return False
