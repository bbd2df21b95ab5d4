"""TREES of FORMS by which one CONDITION is shown to follow from another."""

from plainlock.errors import CanNot
from plainlock.fractions import ZERO, is_fraction
from plainlock.forms import is_row, is_tuple_of
from plainlock.regions import Region, is_never, sign_of, value_of
from plainlock.sides import first_place, is_flat, joined, reduced, view_of

SIDES = (-1, 0, 1)


def claim_of(condition, other):
    """(view, forms): that condition does not hold or other does, and the FORMS by their numbers."""
    places = {}
    view = joined(False, [view_of(condition, False, places), view_of(other, True, places)])
    return view, list(places)


class Tree:
    """A TREE for CONDITIONS, grown from the top; CanNot() if there is none."""

    def __init__(self, unknowns, condition, other):
        self.unknowns = unknowns
        self.view, self.forms = claim_of(condition, other)

    def whole(self):
        return self.grown(self.view, (), (ZERO,) * self.unknowns)

    def grown(self, view, path, values):
        """The TREE below a path, whose FORMS are on these sides at values."""
        if view is True:
            return ("so",)
        if view is False:
            raise CanNot()
        place = first_place(view)
        form = self.forms[place]
        here = sign_of(value_of(form, values))
        parts = []
        for side in SIDES:
            rest = reduced(view, place, side < 0)
            step = path + ((form, side),)
            if rest is True:
                parts.append(("so",))
            elif side == here:
                parts.append(self.grown(rest, step, values))
            else:
                parts.append(self.elsewhere(rest, step, values))
        return ("split", form) + tuple(parts)

    def elsewhere(self, view, path, values):
        """The TREE below a path on which values is not."""
        region = Region(self.unknowns, path, ())
        if region.is_empty():
            return ("never", region.weights())
        return self.grown(view, path, region.inside(values))


def is_grown(unknowns, view, places, path, thing):
    """Whether thing is a TREE below a path, for what is left to be shown there.

    places tells of each FORM that occurs in the view its number.
    """
    if not isinstance(thing, tuple) or thing == ():
        return False
    if thing[0] == "so":
        return len(thing) == 1 and view is True
    if thing[0] == "never":
        return len(thing) == 2 and _is_weights(path, thing[1]) and is_never(path, thing[1])
    if thing[0] != "split" or len(thing) != 5 or not is_form(unknowns, thing[1]) or is_flat(thing[1]):
        return False
    form = thing[1]
    if any([form == known for known, _ in path]):
        return False
    for side, part in zip(SIDES, thing[2:]):
        rest = reduced(view, places[form], side < 0) if form in places else view
        if not is_grown(unknowns, rest, places, path + ((form, side),), part):
            return False
    return True


def is_form(unknowns, thing):
    """Whether thing is a FORM."""
    return is_row(unknowns + 1, thing) and is_tuple_of(is_fraction, thing)


def _is_weights(path, thing):
    """Whether thing has a FRACTION for each split, of the sign that its side asks for."""
    if not is_row(len(path), thing) or not is_tuple_of(is_fraction, thing):
        return False
    return not any([side * weight[0] > 0 for (_, side), weight in zip(path, thing)])
