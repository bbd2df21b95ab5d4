"""TELLINGS: whether a list of the plain lock's steps tells them, or a KNOT forbids it."""

from plainlock.entries import is_node_form, is_step, is_told
from plainlock.errors import CanNot, NoPlace, Unfit
from plainlock.forms import is_tuple_of, tupled
from plainlock.listeners import first_misfit
from plainlock.locks import first_barred, told_of
from plainlock.nodes import Nodes


def is_telling(thing):
    """Whether thing is a TELLING."""
    return is_told(thing)


def misfit(telling):
    """(house, place) of the first entry, house by house, that is not right; None if telling fits."""
    return first_misfit(tupled(telling))


def is_list(thing):
    """Whether thing is a LIST."""
    return is_tuple_of(is_step, thing) and first_barred(thing) is None


def barred(steps):
    """The place of the first STEP that is not let; None if steps are a LIST."""
    return first_barred(tupled(steps))


def told_by(steps):
    """The TELLING that a LIST tells; Unfit() if steps is none."""
    steps = tupled(steps)
    if not is_list(steps):
        raise Unfit()
    return told_of(steps)


def _nodes_of(telling):
    """The Nodes of a TELLING; Unfit() if it does not fit."""
    telling = tupled(telling)
    if first_misfit(telling) is not None:
        raise Unfit()
    return Nodes(telling)


def _checked(telling, one, other):
    """The Nodes of a TELLING, and the numbers of two of them; Unfit(), then NoPlace(node)."""
    nodes = _nodes_of(telling)
    found = [nodes]
    for node in (tupled(one), tupled(other)):
        if not is_node_form(node) or node not in nodes.places:
            raise NoPlace(node)
        found.append(nodes.places[node])
    return found


def is_ahead(telling, one, other):
    """Whether the NODE one is AHEAD of other; Unfit(), NoPlace(node)."""
    nodes, start, goal = _checked(telling, one, other)
    return goal in nodes.later[start]


def is_thread(telling, one, other, thing):
    """Whether thing is a THREAD from one to other; Unfit(), NoPlace(node)."""
    nodes, start, goal = _checked(telling, one, other)
    places = nodes.places_of(thing)
    if places is None or len(places) < 2 or places[0] != start or places[-1] != goal:
        return False
    return all([after in nodes.later[place] for place, after in zip(places, places[1:])])


def is_knot(telling, thing):
    """Whether thing is a KNOT; Unfit() if telling does not fit."""
    nodes = _nodes_of(telling)
    places = nodes.places_of(thing)
    if not places:
        return False
    return all([after in nodes.later[place] for place, after in zip(places, places[1:] + places[:1])])


def list_of(telling):
    """A LIST that tells telling; Unfit() if it does not fit, CanNot() if there is none."""
    nodes = _nodes_of(telling)
    steps = nodes.steps()
    if steps is None:
        raise CanNot()
    return steps


def knot(telling):
    """A KNOT with the fewest NODES; Unfit() if telling does not fit, CanNot() if there is none."""
    nodes = _nodes_of(telling)
    way = nodes.least_circle()
    if way is None:
        raise CanNot()
    return tuple([nodes.named[place] for place in way])


def thread(telling, one, other):
    """A THREAD from one to other with the fewest NODES; CanNot() behind Unfit() and NoPlace(node)."""
    nodes, start, goal = _checked(telling, one, other)
    way = nodes.way(start, goal)
    if way is None:
        raise CanNot()
    return tuple([nodes.named[place] for place in way])


def list_with(telling, one, other):
    """A LIST that tells telling, in which one comes ahead of other; errors as thread."""
    nodes, start, goal = _checked(telling, one, other)
    if start == goal:
        raise CanNot()
    nodes.put_ahead(start, goal)
    steps = nodes.steps()
    if steps is None:
        raise CanNot()
    return steps
