"""Clauses: CONDITIONS that some FORM of each of some tuples is below 0, where all unknowns are from 0.

No FORM here has a place but the first above 0: they fall where unknowns grow.
"""

from plainlock.fractions import less

# What always holds, and what never does.
HOLDS = ()
FAILS = ((),)


def clause_of(forms):
    """That one of these FORMS is below 0, as clauses."""
    if any([form[0][0] < 0 for form in forms]):
        return HOLDS
    return (_without_needless(forms),)


def _is_below(form, other):
    """Whether a FORM is nowhere above another one."""
    return not any([less(y, x) for x, y in zip(form, other)])


def _without_needless(forms):
    """The FORMS but those that are below 0 only where others are."""
    found = []
    for form in sorted(set(forms)):
        if not any([other != form and _is_below(other, form) for other in forms]):
            found.append(form)
    return tuple(found)


def _follows(clause, other):
    """Whether where some FORM of clause is below 0 some FORM of other is."""
    return all([any([_is_below(y, x) for y in other]) for x in clause])


def both(some, others):
    """That all these clauses hold, without those that hold where others do."""
    found = []
    for clause in some + others:
        if not any([_follows(known, clause) for known in found]):
            found = [known for known in found if not _follows(clause, known)] + [clause]
    return tuple(found)


def either(some, others):
    """That all clauses of some hold, or all of others."""
    found = HOLDS
    for clause in some:
        for other in others:
            found = both(found, (_without_needless(clause + other),))
    return found
