"""SHEETS: what clocks, letters, spans and TIES let the events of some houses be."""

from plainlock.errors import CanNot
from plainlock.forms import check_places, is_place, is_row, is_tuple_of, tupled
from plainlock.fractions import ONE, ZERO
from plainlock.fractions import is_fraction, is_from_zero, is_most, less, minus, negative, over, times
from plainlock.rings import checked_ties, is_ties, keeps_ties
from plainlock.sums import is_sum, put_together
from plainlock.weighing import Weighing

MINUS_ONE = (-1, 1)


def is_clock(thing):
    """Whether thing is a CLOCK."""
    if not is_row(2, thing) or not is_tuple_of(is_fraction, thing):
        return False
    slow, fast = thing
    return less(ZERO, slow) and not less(ONE, slow) and not less(fast, ONE)


def is_sheet(thing):
    """Whether thing is a SHEET."""
    if not is_row(5, thing):
        return False
    clocks, events, letters, spans, ties = thing
    if not is_tuple_of(is_clock, clocks) or not isinstance(events, tuple):
        return False
    if not all([is_place(len(clocks), house) for house in events]):
        return False
    if not isinstance(letters, tuple) or not all([_is_letter(events, letter) for letter in letters]):
        return False
    if not isinstance(spans, tuple) or not all([_is_span(events, span) for span in spans]):
        return False
    return is_ties(len(events), ties)


def _is_letter(events, thing):
    return _is_lasting(events, thing) and thing[0] != thing[1]


def _is_span(events, thing):
    if not _is_lasting(events, thing):
        return False
    first, last = thing[:2]
    return first < last and events[first] == events[last]


def _is_lasting(events, thing):
    """Whether thing is two events, a FRACTION from 0 and one not below that, or None."""
    if not is_row(4, thing):
        return False
    start, end, least, most = thing
    if not is_place(len(events), start) or not is_place(len(events), end):
        return False
    return is_from_zero(least) and is_most(least, most)


def is_play(sheet, thing):
    """Whether thing is a PLAY of the SHEET."""
    clocks, events, letters, spans, ties = sheet
    if not is_row(len(events), thing) or not is_tuple_of(_is_stand, thing):
        return False
    moments = [moment for moment, _ in thing]
    readings = [reading for _, reading in thing]
    for a, b in _steps(events):
        if not _keeps_clock(clocks[events[b]], minus(moments[b], moments[a]), minus(readings[b], readings[a])):
            return False
    if not all([_lasts(letter, moments) for letter in letters]):
        return False
    return all([_lasts(span, readings) for span in spans]) and keeps_ties(ties, moments)


def _is_stand(thing):
    return is_row(2, thing) and is_tuple_of(is_fraction, thing)


def _keeps_clock(clock, time, growth):
    """Whether a reading may grow so while this time goes by."""
    slow, fast = clock
    if less(time, ZERO) or less(growth, times(slow, time)):
        return False
    return not less(times(fast, time), growth)


def _lasts(lasting, told):
    """Whether what is told of its two events keeps its least and most."""
    start, end, least, most = lasting
    between = minus(told[end], told[start])
    return not less(between, least) and (most is None or not less(most, between))


def _steps(events):
    """For each event that has one ahead of it at its house both, that one first."""
    newest, found = {}, []
    for event, house in enumerate(events):
        if house in newest:
            found.append((newest[house], event))
        newest[house] = event
    return found


def lines_of(sheet):
    """The LINES of the SHEET: unknown 2 e is the moment of event e, 2 e + 1 its reading."""
    clocks, events, letters, spans, ties = tupled(sheet)
    lines = []
    for a, b in _steps(events):
        lines.extend(_clock_lines(clocks[events[b]], a, b))
    for start, end, least, most in letters:
        lines.extend(_lasting_lines(2 * start, 2 * end, least, most))
    for start, end, least, most in spans:
        lines.extend(_lasting_lines(2 * start + 1, 2 * end + 1, least, most))
    for x, y, most in ties:
        lines.append(_at_most(2 * x, 2 * y, most))
    return tuple(lines)


def _clock_lines(clock, a, b):
    """What a CLOCK says of an event and the one ahead of it at its house, a."""
    slow, fast = clock
    start, end, first, last = 2 * a, 2 * b, 2 * a + 1, 2 * b + 1
    return [
        (((start, ONE), (end, MINUS_ONE)), ZERO),
        (((start, negative(slow)), (first, ONE), (end, slow), (last, MINUS_ONE)), ZERO),
        (((start, fast), (first, MINUS_ONE), (end, negative(fast)), (last, ONE)), ZERO),
    ]


def _lasting_lines(start, end, least, most):
    """end less start is at least least and, if it is told, at most most."""
    lines = [_at_most(end, start, negative(least))]
    if most is not None:
        lines.append(_at_most(start, end, most))
    return lines


def _at_most(start, end, most):
    """The LINE: end less start is at most most."""
    if start == end:
        return ((), most)
    return (tuple(sorted([(start, MINUS_ONE), (end, ONE)])), most)


def web_of(sheet):
    """The WEB of the SHEET's moments alone, its points the events."""
    clocks, events, letters, spans, ties = tupled(sheet)
    found = [(b, a, ZERO) for a, b in _steps(events)]
    for sent, heard, least, most in letters:
        found.append((heard, sent, negative(least)))
        if most is not None:
            found.append((sent, heard, most))
    for first, last, least, most in spans:
        slow, fast = clocks[events[first]]
        found.append((last, first, negative(over(least, fast))))
        if most is not None:
            found.append((first, last, over(most, slow)))
    return (len(events), tuple(found) + ties)


def overlapping(sheet):
    """The set of pairs of places of spans that overlap."""
    events, spans = sheet[1], sheet[3]
    found = []
    for k, span in enumerate(spans):
        for j in range(k):
            if _overlap(events, spans[j], span):
                found.append((j, k))
    return tuple(sorted(found))


def _overlap(events, one, other):
    if events[one[0]] != events[other[0]]:
        return False
    return one[0] < other[1] and other[0] < one[1]


def play(sheet):
    """A PLAY of the SHEET; CanNot() if there is none."""
    weighing = Weighing(lines_of(sheet), None)
    if not weighing.has_answer():
        raise CanNot()
    told = weighing.answer_now()
    events = range(len(sheet[1]))
    return tuple([(told.get(2 * event, ZERO), told.get(2 * event + 1, ZERO)) for event in events])


def no_way(sheet):
    """A SUM of lines_of(sheet); CanNot() if there is a PLAY."""
    weighing = Weighing(lines_of(sheet), None)
    if weighing.has_answer():
        raise CanNot()
    return weighing.sum_now()


def is_no_way(sheet, thing):
    """Whether thing is such a SUM."""
    return is_sum(lines_of(sheet), thing)


def greatest_between(sheet, x, y):
    """The greatest moment of y less moment of x in all PLAYS; None if there is no greatest.

    NoPlace(place) for x, then y; CanNot() if there is no PLAY.
    """
    weighing = _pushed_apart(sheet, x, y)
    return weighing.top() if weighing.has_top() else None


def bound_for(sheet, x, y):
    """A BOUND for greatest_between; CanNot() if that raises it or is None."""
    weighing = _pushed_apart(sheet, x, y)
    if not weighing.has_top():
        raise CanNot()
    return weighing.bound_now()


def _pushed_apart(sheet, x, y):
    """lines_of(sheet) with the moment of y less that of x as goal; CanNot() without a PLAY."""
    check_places(len(sheet[1]), (x, y))
    goal = {} if x == y else {2 * x: -1, 2 * y: 1}
    weighing = Weighing(lines_of(sheet), goal)
    if not weighing.has_answer():
        raise CanNot()
    return weighing


def is_bound(sheet, x, y, most, thing):
    """Whether thing is a BOUND for most; NoPlace(place) for x, then y."""
    check_places(len(sheet[1]), (x, y))
    lines = lines_of(sheet)
    if not is_row(len(lines), thing) or not is_tuple_of(is_from_zero, thing):
        return False
    terms, bound = put_together(lines, thing)
    return terms == _at_most(2 * x, 2 * y, most)[0] and not less(most, bound)


def with_ties(sheet, ties):
    """The SHEET with these TIES behind its own; NoPlace(place) for the first that is no event."""
    clocks, events, letters, spans, own = tupled(sheet)
    return (clocks, events, letters, spans, own + checked_ties(len(events), ties))
