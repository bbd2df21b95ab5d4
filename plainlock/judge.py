"""CLAIMS and their PAPERS, and BOOKS in which one CLAIM stands on others."""

from plainlock.claims import WORDS, claim_of
from plainlock.errors import Unfit
from plainlock.following import is_following
from plainlock.forms import check_places, goes_up, is_place, is_row, is_tuple_of, tupled


def is_claim(thing):
    """Whether thing is a CLAIM."""
    if not isinstance(thing, tuple) or thing == () or thing[0] not in WORDS:
        return False
    return claim_of(thing).is_formed()


def is_book(thing):
    """Whether thing is a BOOK."""
    if not isinstance(thing, tuple):
        return False
    return all([_is_item(place, item) for place, item in enumerate(thing)])


def _is_item(place, thing):
    """Whether thing can be the ITEM at this place."""
    if not is_row(2, thing) or not is_claim(thing[0]) or not is_row(2, thing[1]):
        return False
    word, ground = thing[1]
    if word == "paper":
        return True
    if word != "of" or not isinstance(ground, tuple):
        return False
    return all([is_place(place, one) for one in ground]) and goes_up(ground)


def _checked(claim):
    """The Claim of a CLAIM; Unfit() if it is none."""
    claim = tupled(claim)
    if not is_claim(claim):
        raise Unfit()
    return claim_of(claim)


def is_so(claim):
    """Whether a CLAIM is so; Unfit() if it is none, here and in what follows."""
    return _checked(claim).so()


def paper(claim):
    """A PAPER for a CLAIM if it is so, else one against it."""
    told = _checked(claim)
    return told.paper_for() if told.so() else told.paper_against()


def is_paper_for(claim, thing):
    """Whether thing is a PAPER for a CLAIM."""
    return _checked(claim).is_for(thing)


def is_paper_against(claim, thing):
    """Whether thing is a PAPER against a CLAIM."""
    return _checked(claim).is_against(thing)


def follows_from(claim, claims):
    """Whether a CLAIM follows from these CLAIMS."""
    claim, claims = tupled(claim), tupled(claims)
    if not is_claim(claim) or not is_tuple_of(is_claim, claims):
        raise Unfit()
    return is_following(claim, claims)


def _book(book):
    """book as tuples; Unfit() if it is none."""
    book = tupled(book)
    if not is_book(book):
        raise Unfit()
    return book


def first_gap(book):
    """The place of the first ITEM that does not stand; None if the BOOK stands."""
    book = _book(book)
    for place, (claim, (word, ground)) in enumerate(book):
        if word == "paper":
            stands = claim_of(claim).is_for(ground)
        else:
            stands = is_following(claim, tuple([book[one][0] for one in ground]))
        if not stands:
            return place
    return None


def cut_to(book, places):
    """The BOOK of the ITEMS at these places and all on which they hang; NoPlace(place) behind Unfit()."""
    book = _book(book)
    check_places(len(book), places)
    hangs, waiting = {}, list(places)
    while waiting:
        place = waiting.pop()
        if place not in hangs:
            hangs[place] = True
            if book[place][1][0] == "of":
                waiting.extend(book[place][1][1])
    kept = sorted(hangs)
    found = []
    for place in kept:
        claim, (word, ground) = book[place]
        if word == "of":
            ground = tuple([kept.index(one) for one in ground])
        found.append((claim, (word, ground)))
    return tuple(found)
