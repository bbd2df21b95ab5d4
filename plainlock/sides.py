"""CONDITIONS as what they ask of each FORM: on which side of 0 it is.

A *view* of a CONDITION is True, False, a pair (k, is_below), which asks that
FORM k is below 0 or that it is not, or ("all", parts) or ("any", parts) of
two views or more that are neither True nor False.
"""

from plainlock.fractions import ZERO


def is_flat(form):
    """Whether a FORM comes to the same at all VALUES."""
    return all([x == ZERO for x in form[1:]])


def view_of(condition, wanted, places):
    """The view of a CONDITION, or, if wanted is False, of that it does not hold.

    places tells of each FORM its number; those that are new get the next ones.
    """
    word, inside = condition
    if word in ("below", "from"):
        is_below = (word == "below") == wanted
        if is_flat(inside):
            return (inside[0][0] < 0) == is_below
        return (places.setdefault(inside, len(places)), is_below)
    parts = [view_of(part, wanted, places) for part in inside]
    return joined((word == "all") == wanted, parts)


def joined(is_all, parts):
    """The view that all parts hold, or that some part does."""
    found = []
    for part in parts:
        if part is True or part is False:
            if part != is_all:
                return not is_all
        elif part[0] == ("all" if is_all else "any"):
            found.extend(part[1])
        elif part not in found:
            found.append(part)
    if not found:
        return is_all
    return found[0] if len(found) == 1 else ("all" if is_all else "any", tuple(found))


def reduced(view, place, is_below):
    """The view where it is known on which side FORM place is."""
    if view is True or view is False:
        return view
    word, inside = view
    if word not in ("all", "any"):
        return inside == is_below if word == place else view
    return joined(word == "all", [reduced(part, place, is_below) for part in inside])


def first_place(view):
    """The number of the FORM of which a view, neither True nor False, asks first."""
    while view[0] in ("all", "any"):
        view = view[1][0]
    return view[0]


def forced(view):
    """The pairs (k, is_below) without which a view can't hold, as far as they stand in the open."""
    if view is True or view is False:
        return []
    if view[0] == "all":
        return [part for part in view[1] if part[0] not in ("all", "any")]
    return [] if view[0] == "any" else [view]
