"""What TIES with FORMS ask for so that their WEB has a SCHEDULE: each way around adds up to 0 at least."""

from math import gcd

from plainlock.fractions import ZERO, fraction, less, over, plus, sum_of, times, whole
from plainlock.regions import Region
from plainlock.sides import is_flat


def forms_around(unknowns, many, ties):
    """The FORMS that are to be from 0; None if one of them never is.

    Where all of these are, each way around in the WEB adds up to 0 at least.
    """
    least = {}
    for form in _sums_around(unknowns, many, ties):
        if is_flat(form):
            if less(form[0], ZERO):
                return None
        else:
            form = _shortened(form)
            key = form[1:]
            if key not in least or less(form[0], least[key]):
                least[key] = form[0]
    return _without_needless(unknowns, _tightest_first([(least[key],) + key for key in least]))


def _shortened(form):
    """The FORM times what makes its places but the first whole, without a common divisor."""
    tops, below = whole(form[1:])
    common = 0
    for top in tops:
        common = gcd(common, top)
    return tuple([times(x, fraction(below, common)) for x in form])


def _sums_around(unknowns, many, ties):
    """What the FORMS of the TIES add up to, for each way around that comes to no point twice."""
    leaving = [[] for _ in range(many)]
    for x, y, form in ties:
        leaving[x].append((y, form))
    found = {}
    for start in range(many):
        # Ways from start by greater points: its end, the points passed, the sum so far.
        ways = [(start, (), (ZERO,) * (unknowns + 1))]
        while ways:
            here, passed, total = ways.pop()
            for point, form in leaving[here]:
                added = tuple([plus(x, y) for x, y in zip(total, form)])
                if point == start:
                    found[added] = True
                elif point > start and point not in passed:
                    ways.append((point, passed + (point,), added))
    return list(found)


def _tightest_first(forms):
    """The FORMS by how near to VALUES of nothing but 0 they are 0: so few are kept that others make needless."""
    shares = [over(form[0], sum_of([_size(x) for x in form[1:]])) for form in forms]
    tops = whole(shares)[0]
    ranked_forms = sorted([(top, form) for top, form in zip(tops, forms)])
    return [form for _, form in ranked_forms]


def _size(x):
    return (abs(x[0]), x[1])


def _without_needless(unknowns, forms):
    """Some of the FORMS that ask for all that all of them do."""
    kept = []
    for form in forms:
        if _is_needed(unknowns, form, kept):
            kept.append(form)
    for form in list(kept):
        others = [other for other in kept if other != form]
        if not _is_needed(unknowns, form, others):
            kept = others
    return kept


def _is_needed(unknowns, form, others):
    """Whether a FORM can be below 0 where these are from 0."""
    pairs = tuple([(other, None) for other in others])
    return not Region(unknowns, pairs + ((form, -1),), ()).is_empty()
