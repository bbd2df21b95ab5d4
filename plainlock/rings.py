"""WEBS of TIES between points: SCHEDULES that keep them, RINGS that forbid it."""

from plainlock.errors import CanNot, NoPlace, Unfit
from plainlock.forms import check_places, is_count, is_place, is_row, is_tuple_of, tupled
from plainlock.fractions import ZERO, fraction, is_fraction, less, minus, negative, sum_of, whole


def is_web(thing):
    """Whether thing is a WEB."""
    if not is_row(2, thing):
        return False
    many, ties = thing
    return is_count(many) and is_ties(many, ties)


def is_ties(many, thing):
    """Whether thing is a tuple of TIES between so many points."""
    return isinstance(thing, tuple) and all([_is_tie(many, tie) for tie in thing])


def _is_tie(many, thing):
    if not is_row(3, thing):
        return False
    x, y, most = thing
    return is_place(many, x) and is_place(many, y) and is_fraction(most)


def is_schedule(web, thing):
    """Whether thing is a SCHEDULE of the WEB."""
    many, ties = web
    if not is_row(many, thing) or not is_tuple_of(is_fraction, thing):
        return False
    return keeps_ties(ties, thing)


def keeps_ties(ties, moments):
    """Whether these moments of the points keep all TIES."""
    return not any([less(most, minus(moments[y], moments[x])) for x, y, most in ties])


def is_chain(web, x, y, thing):
    """Whether thing is a CHAIN of the WEB from x to y; NoPlace(place) for x, then y."""
    many, ties = web
    check_places(many, (x, y))
    if not _is_places(ties, thing):
        return False
    here = x
    for place in thing:
        start, goal, _ = ties[place]
        if start != here:
            return False
        here = goal
    return here == y


def _is_places(ties, thing):
    """Whether thing is a tuple of places of ties."""
    return isinstance(thing, tuple) and all([is_place(len(ties), place) for place in thing])


def is_ring(web, thing):
    """Whether thing is a RING of the WEB."""
    ties = web[1]
    if not _is_places(ties, thing) or thing == ():
        return False
    start = ties[thing[0]][0]
    return is_chain(web, start, start, thing) and less(length(web, thing), ZERO)


def length(web, chain):
    """What the mosts at these places add up to; NoPlace(place) for the first that is none."""
    ties = web[1]
    check_places(len(ties), chain)
    return sum_of([ties[place][2] for place in chain])


def schedule(web):
    """A SCHEDULE of the WEB; CanNot() if there is none."""
    many, ties = web
    short, below = _whole_ties(ties)
    moments = [0] * many
    if _lower(short, moments)[1] is not None:
        raise CanNot()
    return _fractions(moments, below)


def ring(web):
    """A RING of the WEB; CanNot() if there is none."""
    many, ties = web
    short = _whole_ties(ties)[0]
    came, here = _lower(short, [0] * many)
    if here is None:
        raise CanNot()
    # Where a point is lowered in the last round, so many steps back lead into
    # the ring by which it was.
    for _ in range(many):
        here = short[came[here]][0]
    return _way_back(short, came, here, here)


def farthest(web, x, y):
    """The greatest moment of y less that of x in all SCHEDULES; None if there is no greatest.

    NoPlace(place) for x, then y; CanNot() if there is no SCHEDULE.
    """
    short, below = _ties_between(web, x, y)
    moments = _lowered_from(web[0], short, x)[0]
    return None if moments[y] is None else fraction(moments[y], below)


def chain(web, x, y):
    """A CHAIN from x to y of that length; CanNot() if there is no such length."""
    short = _ties_between(web, x, y)[0]
    moments, came = _lowered_from(web[0], short, x)
    if moments[y] is None:
        raise CanNot()
    return () if x == y else _way_back(short, came, x, y)


def stretched(web, y, far):
    """The SCHEDULE with y at 0, no point below -far, and all points at their least.

    NoPlace(y); Unfit() if far is below 0; CanNot() if there is none.
    """
    many, ties = web
    _check_far(many, y, far)
    turned = [(b, a, most) for a, b, most in ties]
    return tuple([negative(moment) for moment in _pushed(many, turned, y, far)])


def drawn(web, x, far):
    """The SCHEDULE with x at 0, no point above far, and all points at their greatest.

    NoPlace(x); Unfit() if far is below 0; CanNot() if there is none.
    """
    many, ties = web
    _check_far(many, x, far)
    return _pushed(many, ties, x, far)


def tied(web, ties):
    """The WEB with these TIES behind its own; NoPlace(place) for the first that is no point."""
    many, own = tupled(web)
    return (many, own + checked_ties(many, ties))


def checked_ties(many, ties):
    """These TIES as a tuple; NoPlace(place) for the first number in them that is no point."""
    ties = tupled(ties)
    for x, y, _ in ties:
        check_places(many, (x, y))
    return ties


def _check_far(many, point, far):
    if not is_place(many, point):
        raise NoPlace(point)
    if less(far, ZERO):
        raise Unfit()


def _whole_ties(ties):
    """(ties, below): with mosts that are whole numbers, the tops over one below."""
    tops, below = whole([most for _, _, most in ties])
    return [(tie[0], tie[1], top) for tie, top in zip(ties, tops)], below


def _fractions(moments, below):
    return tuple([fraction(moment, below) for moment in moments])


def _ties_between(web, x, y):
    """The whole ties of a WEB that has a SCHEDULE, and their below."""
    many, ties = web
    check_places(many, (x, y))
    short, below = _whole_ties(ties)
    if _lower(short, [0] * many)[1] is not None:
        raise CanNot()
    return short, below


def _lower(short, moments):
    """Lower moments, None for endless, till they keep the ties.

    (came, None): came has for each point the place of the tie by which it was
    lowered last. (came, point): so many rounds as there are points are not
    enough, and this point was lowered in the last one.
    """
    came = [None] * len(moments)
    point = None
    for _ in range(len(moments)):
        point = None
        for place, (x, y, most) in enumerate(short):
            here = moments[x]
            if here is not None and (moments[y] is None or here + most < moments[y]):
                moments[y] = here + most
                came[y] = place
                point = y
        if point is None:
            break
    return came, point


def _lowered_from(many, short, start):
    """(moments, came): how far the points are at most behind start, None for endless."""
    moments = [None] * many
    moments[start] = 0
    came = _lower(short, moments)[0]
    return moments, came


def _way_back(short, came, start, point):
    """The places of the ties that led from start to point, one at least."""
    found = []
    here = point
    while not found or here != start:
        found.append(came[here])
        here = short[came[here]][0]
    found.reverse()
    return tuple(found)


def _pushed(many, ties, start, far):
    """The greatest moments with start at 0 and no point above far; CanNot() if there are none."""
    bounds = [(start, point, far) for point in range(many)]
    short, below = _whole_ties(list(ties) + bounds)
    moments = [None] * many
    moments[start] = 0
    if _lower(short, moments)[1] is not None:
        raise CanNot()
    return _fractions(moments, below)
