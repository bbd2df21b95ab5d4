"""Which CLAIMS follow from others, without any PAPER."""

from plainlock.fractions import less
from plainlock.plans import covers, same_but_times


def is_following(claim, claims):
    """Whether a CLAIM is one of these, or follows by one rule."""
    if claim in claims:
        return True
    known = [other for other in claims if other[0] == claim[0]]
    if claim[0] == "within":
        return any([_is_between(claim, one, two) for one in known for two in known])
    return any([_follows(claim, one) for one in known])


def _is_between(claim, one, two):
    """Whether a CLAIM of two CONDITIONS leads over the one in the middle."""
    return one[:3] == claim[:3] and two[:2] == claim[:2] and one[3] == two[2] and two[3] == claim[3]


def _follows(claim, one):
    """Whether a CLAIM follows from one of the same word."""
    word = claim[0]
    if word == "lines":
        return all([_is_wider(line, one[1]) for line in claim[1]])
    if word == "right":
        return _is_right_too(claim, one)
    if word == "roster":
        fewer = claim[2] == one[2] and _is_part(claim[1], one[1])
        return fewer or (claim[1] == one[1] and _is_part(one[2], claim[2]))
    if word == "kinds":
        (table, grants, carry), (known, granted, carried) = claim[1], one[1]
        more = grants == granted and _is_part(carried, carry)
        return table == known and (more or (grants and carry == carried))
    if word == "smooth":
        if claim[1][:3] != one[1][:3]:
            return False
        return not any([less(wait, known) for wait, known in zip(claim[1][3], one[1][3])])
    return False


def _is_part(some, others):
    return all([x in others for x in some])


def _is_wider(line, lines):
    """Whether a LINE has the terms of one of these, and no lesser bound."""
    terms, bound = line
    return any([terms == known and not less(bound, other) for known, other in lines])


def _is_right_too(claim, one):
    _, plan, locks, language = claim
    _, known, many, told = one
    if plan == known:
        if many >= 2 and language in (told, "deeds"):
            return True
        return many == 1 and locks == 1
    if (locks, language) != (many, told) or not same_but_times(plan, known):
        return False
    return covers(plan, known)
