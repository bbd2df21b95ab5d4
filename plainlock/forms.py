"""The forms of values that all the other files ask for."""

from plainlock.errors import NoPlace


def tupled(value):
    """value with a tuple for each list in it, at any depth."""
    if isinstance(value, (list, tuple)):
        return tuple([tupled(part) for part in value])
    return value


def is_number(thing):
    return isinstance(thing, int) and not isinstance(thing, bool)


def is_count(thing):
    """Whether thing is a number from 0."""
    return is_number(thing) and thing >= 0


def is_place(many, thing):
    """Whether thing is a place in a tuple of so many."""
    return is_count(thing) and thing < many


def is_truth(thing):
    return isinstance(thing, bool)


def is_tuple_of(test, thing):
    """Whether thing is a tuple, maybe (), and test is True of each part."""
    return isinstance(thing, tuple) and all(test(part) for part in thing)


def is_row(many, thing):
    """Whether thing is a tuple of so many."""
    return isinstance(thing, tuple) and len(thing) == many


def goes_up(row):
    """Whether a tuple whose parts compare is ascending, without duplicates."""
    return all(row[k] < row[k + 1] for k in range(len(row) - 1))


def is_same(one, other):
    """Whether these are equal, truths and numbers being unlike."""
    if isinstance(one, tuple) and isinstance(other, tuple) and len(one) == len(other):
        return all([is_same(x, y) for x, y in zip(one, other)])
    return one == other and is_truth(one) == is_truth(other)


def check_places(many, places):
    """NoPlace of the first of these that is no place in a tuple of so many."""
    for place in places:
        if not is_place(many, place):
            raise NoPlace(place)
