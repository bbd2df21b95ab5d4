"""PROGRAMS of clients: what they do, what it all can come to, and RUNS in which it does."""

from plainlock.doings import Doing
from plainlock.errors import CanNot, Unfit
from plainlock.forms import goes_up, is_count, is_number, is_place, is_row, is_tuple_of, tupled
from plainlock.laid import run_of
from plainlock.listeners import first_misfit
from plainlock.plans import can_hold
from plainlock.staging import lot_that_frees
from plainlock.standings import Standings, locks_of_parts, parts_of, steps_of, stores_of_parts


def is_program(thing):
    """Whether thing is a PROGRAM."""
    if thing == ():
        return True
    if not isinstance(thing, tuple) or len(thing) < 3 or not is_count(thing[1]):
        return False
    word = thing[0]
    if word in ("take", "free"):
        return len(thing) == 3 and is_program(thing[2])
    if word == "look":
        return len(thing) == 4 and is_program(thing[2]) and is_program(thing[3])
    if word not in ("put", "get") or len(thing) != 6 or not is_count(thing[2]):
        return False
    is_given = is_number(thing[3]) if word == "put" else _is_cases(thing[3])
    return is_given and is_program(thing[4]) and is_program(thing[5])


def _is_cases(thing):
    """Whether thing are the cases of a get."""
    if not is_tuple_of(_is_case, thing):
        return False
    return goes_up([answer for answer, _ in thing])


def _is_case(thing):
    return is_row(2, thing) and is_number(thing[0]) and is_program(thing[1])


def is_cast(thing):
    """Whether thing is a CAST."""
    return is_tuple_of(is_program, thing) and thing != ()


def goes(program, row):
    """Whether row is what program does, up to any place."""
    return Doing(tupled(program)).reads(tupled(row))


def program_of(row):
    """A PROGRAM that does just this ROW; Unfit() if it goes on where it waits for an answer."""
    row = tupled(row)
    for entry, after in zip(row, row[1:]):
        if not _may_follow(entry, after):
            raise Unfit()
    program = ()
    for place in range(len(row) - 1, -1, -1):
        program = _with_entry(row, place, program)
    return program


def _may_follow(entry, after):
    """Whether after may come right behind entry."""
    word = entry[0]
    if word == "ask":
        return after[0] in ("told", "not now") and after[1] == entry[1]
    if word == "not now":
        return after == ("ask", entry[1])
    if word == "deed":
        return after[0] in ("done", "stale") and after[1:4] == entry[1:3] + (entry[4],)
    return True


def _with_entry(row, place, program):
    """A PROGRAM that does the entry at this place, and goes on so."""
    entry = row[place]
    word, lock = entry[:2]
    if word == "ask":
        # An ask behind a not now is of the same take.
        is_again = row[place + 1:place + 2] == (("not now", lock),) and place + 2 < len(row)
        return program if is_again else ("take", lock, program)
    if word == "released":
        return ("free", lock, program)
    if word == "look":
        return ("look", lock) + ((program, ()) if entry[2] else ((), program))
    if word == "not held":
        return ("get", lock, entry[2], (), (), program)
    if word == "deed":
        return _deed_with(entry, row[place + 1:place + 2], program)
    return program


def _deed_with(deed, answers, program):
    """A PROGRAM that does this deed, and goes on so behind its answer."""
    _, lock, place, _, _, what = deed
    is_stale = answers != () and answers[0][0] == "stale"
    done, other = ((), program) if is_stale else (program, ())
    if what[0] == "put":
        return ("put", lock, place, what[1], done, other)
    if answers == () or is_stale:
        return ("get", lock, place, (), done, other)
    return ("get", lock, place, ((answers[0][4], done),), (), other)


def stores_of(cast):
    """The STORES of a CAST."""
    return stores_of_parts(list(parts_of(tupled(cast))))


def end_of(cast, telling):
    """The END of a TELLING of a CAST; None if it does not end; Unfit() if it is not of cast."""
    cast, telling = tupled(cast), tupled(telling)
    if first_misfit(telling) is not None:
        raise Unfit()
    rows = {house: row for house, row in telling}
    if any([house[0] == "client" and not is_place(len(cast), house[1]) for house in rows]):
        raise Unfit()
    doings = [Doing(program) for program in cast]
    if not all([doing.reads(rows.get(("client", client), ())) for client, doing in enumerate(doings)]):
        raise Unfit()
    if not all([doing.has_ended() for doing in doings]):
        return None
    return tuple([_integer(rows.get(("store", lock, place), ())) for lock, place in stores_of(cast)])


def _integer(row):
    """The integer of a store behind its ROW."""
    puts = [what[1] for _, _, what, _ in row if what[0] == "put"]
    return puts[-1] if puts else 0


def ends(cast, lapse):
    """The set of all ENDS of quiet LISTS of moves; TooMany() of more than 5,000 standings."""
    standings = Standings(tupled(cast), lapse)
    told = [standings.end_of(standing) for standing in standings.rows]
    return tuple(sorted(set([end for end in told if end is not None])))


def list_to(cast, lapse, end):
    """A quiet LIST of moves with this END; CanNot() if there is none, behind TooMany()."""
    standings, end = Standings(tupled(cast), lapse), tupled(end)
    for standing in standings.rows:
        if standings.end_of(standing) == end:
            return steps_of(standings.way_to(standing))
    raise CanNot()


def stuck(cast):
    """A quiet LIST of moves, without lapse, to a stuck standing; CanNot() if there is none, behind TooMany()."""
    standings = Standings(tupled(cast), False)
    for standing in standings.rows:
        if standings.end_of(standing) is None and standings.moves(standing) == []:
            return steps_of(standings.way_to(standing))
    raise CanNot()


def run_to(plan, cast, end):
    """A RUN of plan whose TELLING is of cast and has this END; CanNot() if there is none, behind TooMany()."""
    plan, cast = tupled(plan), tupled(cast)
    steps = list_to(cast, True, end)
    parts = list(parts_of(cast))
    if not can_hold(plan) or not all([is_place(len(plan[5]), place) for _, place in stores_of_parts(parts)]):
        raise CanNot()
    # The locks of the CAST count, also those that this LIST does not come to.
    if lot_that_frees(plan, len(locks_of_parts(parts))) is None:
        raise CanNot()
    return run_of(plan, steps)
