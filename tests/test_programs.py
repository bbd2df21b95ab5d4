"""[20]: PROGRAMS, what they can come to, and RUNS in which they do."""

import random
import unittest

from plainlock.errors import CanNot, TooMany, Unfit
from plainlock.laid import is_quiet
from plainlock.listeners import Listener
from plainlock.locks import PlainLock
from plainlock.plain import is_list, told_by
from plainlock.plans import can_hold, changed
from plainlock.programs import end_of, ends, goes, is_cast, is_program, list_to, program_of, run_to, stores_of, stuck
from plainlock.right import is_right
from plainlock.runs import is_run, telling
from tests.drawing import a_list, a_plan, a_quiet_list, a_run
from tests.helping import LONE, at, check_call

FIRST = ("take", 0, ("get", 0, 0, ((0, ("put", 0, 0, 1, ("free", 0, ()), ())),), ("free", 0, ()), ()))
SECOND = ("take", 0, ("get", 0, 0, ((0, ("put", 0, 0, 2, ("free", 0, ()), ())),), ("free", 0, ()), ()))
CROSSED = (("take", 0, ("take", 1, ("look", 0, (), ()))), ("take", 1, ("take", 0, ("look", 1, (), ()))))
ASK, TOLD, NOT_NOW = ("ask", 0), ("told", 0, (3, 7)), ("not now", 0)
DEED = ("deed", 0, 1, (3, 7), 4, ("put", 5))
GET = ("deed", 0, 1, (3, 7), 6, ("get",))


def a_program(draw, depth, locks=2, places=1):
    if depth == 0 or draw.random() < 0.1:
        return ()
    word, lock = draw.choice(("take", "take", "free", "put", "get", "look")), draw.randrange(locks)

    def more():
        return a_program(draw, depth - 1, locks, places)

    if word in ("take", "free"):
        return (word, lock, more())
    if word == "look":
        return (word, lock, more(), more())
    place = draw.randrange(places)
    if word == "put":
        return (word, lock, place, draw.randint(-1, 2), more(), more())
    cases = sorted({draw.randint(-1, 2) for _ in range(draw.randint(0, 2))})
    return (word, lock, place, tuple((case, more()) for case in cases), more(), more())


def a_cast(draw, depth=5, clients=3, locks=2):
    return tuple(a_program(draw, draw.randint(1, depth), locks) for _ in range(draw.randint(1, clients)))


class Walk:
    """All that a CAST can come to, walked by what stands and who holds alone."""

    def __init__(self, cast, lapse):
        self.lapse, self.seen, self.stuck = lapse, set(), []
        self.ends = set()
        waiting = [(cast, frozenset(), frozenset(), frozenset())]
        while waiting:
            here = waiting.pop()
            if here in self.seen:
                continue
            self.seen.add(here)
            programs, _, holders, integers = here
            if not any(programs):
                self.ends.add(integers)
            steps = [step for client in range(len(cast)) for step in self.moves(here, client)]
            if any(programs) and not steps:
                self.stuck.append(here)
            if lapse:
                steps += [(programs, here[1], holders - {one}, integers) for one in holders]
            waiting.extend(steps)

    def moves(self, here, client):
        programs, stood, holders, integers = here
        if not programs[client]:
            return []
        word, lock, *rest = programs[client]
        stands, holds = (client, lock) in stood, (client, lock) in holders
        taken = any(other == lock for _, other in holders)

        def on(program, stood=stood, holders=holders, integers=integers):
            return [(programs[:client] + (program,) + programs[client + 1:], stood, holders, integers)]

        if word == "take":
            if stands:
                return on(rest[0])
            return [] if taken else on(rest[0], stood | {(client, lock)}, holders | {(client, lock)})
        if word == "free":
            return on(rest[0], stood - {(client, lock)}, holders - {(client, lock)})
        if word == "look":
            return on(rest[0]) if holds else on(rest[1], stood - {(client, lock)})
        if not holds:
            return on(rest[3], stood - {(client, lock)})
        told = dict(integers)
        answer = told.get((lock, rest[0]), 0)
        if word == "put":
            told[(lock, rest[0])] = rest[1]
            return on(rest[2], integers=frozenset((store, v) for store, v in told.items() if v))
        return on(dict(rest[1]).get(answer, rest[2]))

    def all_ends(self, cast):
        return tuple(sorted({tuple(dict(end).get(store, 0) for store in stores_of(cast)) for end in self.ends}))


class Forms(unittest.TestCase):
    def test_programs(self):
        for thing in ((), ("take", 0, ()), ("free", 3, ("take", 0, ())), ("put", 0, 0, -4, (), ()), ("get", 0, 2, (), (), ()),
                      ("get", 0, 0, ((-1, ()), (4, ("take", 1, ()))), (), ()), ("look", 0, (), ("free", 0, ())), FIRST, CROSSED[0]):
            self.assertIs(is_program(thing), True, thing)
        for thing in (
                None, 0, "take", [], ["take", 0, ()], ("take",), ("take", 0), ("take", 0, (), ()), ("take", -1, ()), ("take", True, ()),
                ("take", 0, None), ("take", 0, []), ("take", 0, ("take",)), ("hold", 0, ()), ("free", 0, (), ()), ("put", 0, 0, 1, ()),
                ("put", 0, 0, 1, (), (), ()), ("put", 0, -1, 1, (), ()), ("put", 0, 0, None, (), ()), ("put", 0, 0, True, (), ()),
                ("put", 0, 0, 1, 0, ()), ("put", 0, 0, 1, (), 0), ("get", 0, 0, 1, (), ()), ("get", 0, 0, ((1, ()), (1, ())), (), ()),
                ("get", 0, 0, ((2, ()), (1, ())), (), ()), ("get", 0, 0, [], (), ()), ("get", 0, 0, ((1,),), (), ()),
                ("get", 0, 0, ((True, ()),), (), ()), ("get", 0, 0, ((1, 1),), (), ()), ("get", 0, 0, ([1, ()],), (), ()),
                ("get", 0, 0, (), (), 1), ("get", 0, "0", (), (), ()), ("look", 0, ()), ("look", 0, (), 1), ("look", 0, 1, ()),
                ("look", 0, (), (), ()), ("look", "0", (), ()), (("take", 0, ()),), ("", 0, ()), ("push", 0, 0, 1, (), ()), ("take", 0, 0, 1, (), ()), ("set", 0, 0, (), (), ())):
            self.assertIs(is_program(thing), False, thing)
        deep = ()
        for _ in range(45):
            deep = ("take", 0, deep)
        self.assertIs(is_program(deep), True)

    def test_casts(self):
        for thing in (((),), (FIRST,), (FIRST, (), SECOND), ((),) * 9):
            self.assertIs(is_cast(thing), True)
        for thing in ((), FIRST, [FIRST], (FIRST, 0), None, (FIRST, []), (("take", 0),)):
            self.assertIs(is_cast(thing), False)

    def test_stores(self):
        self.assertEqual(stores_of((FIRST, ())), ((0, 0),))
        self.assertEqual(stores_of(CROSSED), ())
        inside = ("get", 1, 0, ((0, ("get", 0, 3, (), (), ())),), ("look", 5, (), ("put", 0, 1, 0, (), ())), ("put", 2, 0, 0, (), ()))
        self.assertEqual(stores_of((("free", 9, inside), inside)), ((0, 1), (0, 3), (1, 0), (2, 0)))


class Rows(unittest.TestCase):
    def check(self, program, row, told=True):
        """What it does, and each beginning of it."""
        for many in range(len(row)):
            self.assertTrue(goes(program, row[:many]), (program, row[:many]))
        self.assertIs(goes(program, row), told, (program, row))

    def test_takes_and_frees(self):
        twice = ("take", 0, ("take", 0, ("free", 0, ("free", 0, ("take", 1, ())))))
        self.check(twice, (ASK, TOLD, ("released", 0), ("ask", 1), ("told", 1, (1, 7))))
        self.check(twice, (ASK, NOT_NOW, ASK, NOT_NOW, ASK, TOLD, ("released", 0), ("ask", 1), ("not now", 1)))
        self.check(twice, (ASK, TOLD, ASK), False)
        self.check(twice, (ASK, NOT_NOW, ("ask", 1)), False)
        self.check(twice, (("ask", 1),), False)
        self.check(twice, (ASK, TOLD, ("released", 0), ("ask", 1), ("told", 1, (1, 7)), ("ask", 0)), False)
        self.check(twice, (ASK, ("ask", 1)), False)
        self.check(twice, (ASK, TOLD, ("look", 0, True)), False)
        self.assertTrue(goes((), ()))
        self.assertFalse(goes((), (ASK,)))
        self.assertFalse(goes(("free", 0, ()), (ASK,)))

    def test_deeds_and_looks(self):
        after = ("look", 0, ("free", 0, ()), ("take", 0, ()))
        program = ("take", 0, ("put", 0, 1, 5, after, ("take", 1, ())))
        self.check(program, (ASK, TOLD, DEED, ("done", 0, 1, 4, -9), ("look", 0, True), ("released", 0)))
        self.check(program, (ASK, TOLD, DEED, ("done", 0, 1, 4, 0), ("look", 0, False), ASK))
        self.check(program, (ASK, TOLD, DEED, ("done", 0, 1, 4, 0), ("look", 0, False), ("released", 0)), False)
        self.check(program, (ASK, TOLD, DEED, ("stale", 0, 1, 4), ("ask", 1)))
        self.check(program, (ASK, TOLD, DEED, ("stale", 0, 1, 4), ("look", 0, False)), False)
        self.check(program, (ASK, TOLD, ("not held", 0, 1), ("ask", 1)))
        self.check(program, (ASK, TOLD, ("not held", 0, 0)), False)
        self.check(program, (ASK, TOLD, DEED, ("look", 0, True)), False)
        self.check(program, (ASK, TOLD, ("deed", 0, 1, (3, 7), 4, ("put", 6))), False)
        self.check(program, (ASK, TOLD, ("deed", 0, 0, (3, 7), 4, ("put", 5))), False)
        self.check(program, (ASK, TOLD, GET), False)
        self.check(("look", 0, (), ("look", 1, (), ())), (("look", 0, False), ("look", 1, False)))
        self.check(("look", 0, (), ("look", 1, (), ())), (("look", 0, False), ("look", 0, False)), False)

    def test_behind_a_stale_answer_it_asks_anew(self):
        program = ("take", 0, ("get", 0, 1, (), ("take", 0, ("look", 0, (), ())), ("take", 0, ())))
        self.check(program, (ASK, TOLD, GET, ("stale", 0, 1, 6), ASK))
        self.check(program, (ASK, TOLD, GET, ("done", 0, 1, 6, 3), ("look", 0, True)))
        self.check(program, (ASK, TOLD, GET, ("done", 0, 1, 6, 3), ASK), False)

    def test_cases(self):
        program = ("take", 0, ("get", 0, 1, ((-2, ("look", 0, (), ())), (3, ("free", 0, ()))), ("look", 1, (), ()), ("look", 2, (), ())))
        for answer, entry in ((-2, ("look", 0, True)), (3, ("released", 0)), (4, ("look", 1, False)), (0, ("look", 1, False))):
            self.check(program, (ASK, TOLD, GET, ("done", 0, 1, 6, answer), entry))
            self.check(program, (ASK, TOLD, GET, ("done", 0, 1, 6, answer), ("look", 2, False)), False)
        self.check(program, (ASK, TOLD, ("not held", 0, 1), ("look", 2, False)))

    def test_programs_of_rows(self):
        for row, told in (
                ((), ()), ((ASK,), ("take", 0, ())), ((ASK, NOT_NOW), ("take", 0, ())), ((ASK, NOT_NOW, ASK), ("take", 0, ())),
                ((ASK, TOLD), ("take", 0, ())), ((ASK, NOT_NOW, ASK, TOLD, ("released", 0)), ("take", 0, ("free", 0, ()))),
                ((ASK, TOLD, ("released", 0), ASK, NOT_NOW), ("take", 0, ("free", 0, ("take", 0, ()))))):
            self.assertEqual(program_of(row), told)
        for row in ((ASK, TOLD, DEED), (ASK, TOLD, DEED, ("done", 0, 1, 4, 2)), (ASK, TOLD, DEED, ("stale", 0, 1, 4), ASK),
                    (ASK, TOLD, GET, ("done", 0, 1, 6, 9), ("look", 0, True)), (("not held", 3, 0), ("look", 0, False), ASK),
                    (ASK, TOLD, ("look", 0, False), ASK, NOT_NOW)):
            self.does_just(row)

    def does_just(self, row):
        program = program_of(row)
        self.assertTrue(is_program(program))
        self.check(program, row)
        bent = [(place, other) for place in range(len(row)) for other in others(row, place)]
        for place, other in bent:
            heard = row[:place] + (other,)
            if goes(program, heard):
                # What it hears else, behind which it ends.
                self.assertFalse(any(goes(program, heard + (more,)) for more in (
                    ("ask", 0), ("ask", 1), ("look", 0, False), ("look", 1, False), ("not held", 0, 0), ("not held", 0, 1))), heard)

    def test_drawn_rows(self):
        draw = random.Random(200)
        found = {True: 0, False: 0}
        for k in range(150):
            steps = (a_quiet_list if k % 3 else a_list)(draw, 16, clients=2, locks=1 + k % 2)
            for house, row in told_by(steps):
                if house[0] != "client":
                    continue
                is_so = waits_well(row)
                found[is_so] += 1
                if is_so:
                    self.does_just(row)
                else:
                    with self.assertRaises(Unfit):
                        program_of(row)
        self.assertGreater(min(found.values()), 40)

    def test_unfit(self):
        for row in ((ASK, ("ask", 1)), (ASK, TOLD, DEED, ("look", 0, True)), (ASK, NOT_NOW, ("ask", 1)), (ASK, NOT_NOW, ("look", 0, False)),
                    (ASK, ("look", 0, False), TOLD), (ASK, TOLD, DEED, GET), (ASK, TOLD, DEED, GET, ("done", 0, 1, 6, 0)),
                    (("ask", 1), ASK, TOLD)):
            with self.assertRaises(Unfit):
                program_of(row)


def others(row, place):
    """What a client could hear in the place of an entry, and can tell from that."""
    listener = Listener(7)
    for one in row[:place]:
        listener.hear(one)
    entry = row[place]
    word = entry[0]
    told = []
    if word == "done":
        told = [("stale",) + entry[1:4]]
        if listener.deeds[entry[1:4]][1] == ("get",):
            told.append(entry[:4] + (entry[4] + 1,))
    elif word == "stale":
        told = [("done",) + entry[1:] + (0,)]
    elif word == "look":
        told = [("look", entry[1], not entry[2])]
    elif word == "deed" and row[place + 1:place + 2] and row[place + 1][0] == "done":
        told = [("not held",) + entry[1:3]]
    return [one for one in told if listener.fits(one)]


def waits_well(row):
    for entry, after in zip(row, row[1:]):
        if entry[0] == "ask" and after not in ((("not now",) + entry[1:]),) and after[:2] != ("told", entry[1]):
            return False
        if entry[0] == "not now" and after != ("ask", entry[1]):
            return False
        if entry[0] == "deed" and (after[0] not in ("done", "stale") or after[1:4] != (entry[1], entry[2], entry[4])):
            return False
    return True


class Ends(unittest.TestCase):
    def test_of_tellings(self):
        row = (ASK, ("told", 0, (1, 0)), ("deed", 0, 0, (1, 0), 2, ("get",)), ("done", 0, 0, 2, 0))
        shop = (((1, 0), 2, ("get",), 0),)
        told = ((("client", 0), row), (("store", 0, 0), shop))
        self.assertIsNone(end_of((FIRST,), told))
        row += (("deed", 0, 0, (1, 0), 3, ("put", 1)), ("done", 0, 0, 3, 0), ("released", 0))
        shop += (((1, 0), 3, ("put", 1), 0),)
        told = ((("client", 0), row), (("store", 0, 0), shop))
        self.assertEqual(end_of((FIRST,), told), (1,))
        self.assertEqual(end_of((FIRST, ()), told), (1,))
        self.assertIsNone(end_of((FIRST, FIRST), told))
        # One that goes on at once has ended, too.
        self.assertEqual(end_of((FIRST, ("free", 0, ())), told), (1,))
        self.assertEqual(end_of((("put", 1, 2, 5, (), ()),), ((("client", 0), (("not held", 1, 2),)),)), (0,))
        for cast in ((SECOND,), ((), FIRST), ((),)):
            with self.assertRaises(Unfit):
                end_of(cast, told)
        for wrong in (told[:1], ((("client", 0), row[1:]), told[1]), ((("client", 1), (("look", 0, False),)),)):
            with self.assertRaises(Unfit):
                end_of((FIRST,), wrong)
        self.assertEqual(end_of(((),), ()), ())

    def test_unanswered_waits(self):
        row = (ASK, ("told", 0, (1, 0)), ("deed", 0, 0, (1, 0), 2, ("put", 3)))
        cast = (("take", 0, ("put", 0, 0, 3, (), ())),)
        self.assertIsNone(end_of(cast, ((("client", 0), row),)))
        done = ((("client", 0), row), (("store", 0, 0), (((1, 0), 2, ("put", 3), 0),)))
        self.assertIsNone(end_of(cast, done))
        self.assertEqual(end_of(cast, ((("client", 0), row + (("done", 0, 0, 2, 0),)), done[1])), (3,))
        self.assertEqual(end_of(cast, ((("client", 0), row + (("stale", 0, 0, 2),)),)), (0,))

    def test_beside_a_walk(self):
        draw = random.Random(201)
        found = {"ends": 0, "stuck": 0, "more": 0}
        for _ in range(120):
            cast = a_cast(draw)
            for lapse in (False, True):
                walk = Walk(cast, lapse)
                if len(walk.seen) > 5000:
                    with self.assertRaises(TooMany):
                        ends(cast, lapse)
                    continue
                told = ends(cast, lapse)
                self.assertEqual(told, walk.all_ends(cast))
                found["ends"] += len(told) > 1
                for end in told:
                    self.check_list(cast, lapse, end)
                with self.assertRaises(CanNot):
                    list_to(cast, lapse, (77,) * len(stores_of(cast)) + (1,))
            walk = Walk(cast, False)
            if walk.stuck:
                self.check_stuck(cast)
                found["stuck"] += 1
            else:
                with self.assertRaises(CanNot):
                    stuck(cast)
        self.assertGreater(min(found["ends"], found["stuck"]), 10)

    def check_list(self, cast, lapse, end):
        steps = list_to(cast, lapse, end)
        self.assertTrue(is_list(steps))
        self.assertTrue(is_quiet(steps))
        self.assertEqual(end_of(cast, told_by(steps)), end)
        if not lapse:
            self.assertNotIn("end", [step[0] for step in steps])

    def check_stuck(self, cast):
        """A quiet LIST without lapse, behind which each PROGRAM that is left asks for what is held."""
        steps = stuck(cast)
        self.assertTrue(is_quiet(steps))
        self.assertNotIn("end", [step[0] for step in steps])
        self.assertIsNone(end_of(cast, told_by(steps)))
        lock = PlainLock()
        for step in steps:
            lock.play(step)
        rows = dict(told_by(steps))
        for client, program in enumerate(cast):
            row = rows.get(("client", client), ())
            goes_on = [entry for entry in nexts(lock, client) if goes(program, row + (entry,))]
            for entry in goes_on:
                self.assertEqual(entry[0], "ask")
                self.assertIsNotNone(lock.holder(entry[1]))

    def test_lapses(self):
        self.assertEqual(ends((FIRST, SECOND), False), ((1,), (2,)))
        self.assertEqual(ends((FIRST, SECOND), True), ((0,), (1,), (2,)))
        self.assertEqual(ends(CROSSED, False), ())
        self.assertEqual(ends(CROSSED, True), ((),))
        steps = stuck(CROSSED)
        self.assertEqual(sorted(step[:2] for step in steps if step[0] == "grant"), [("grant", 0), ("grant", 1)])
        with self.assertRaises(CanNot):
            stuck((FIRST, SECOND))
        self.assertEqual(ends((("take", 0, ()), ("take", 0, ())), False), ())
        self.assertEqual(ends((("take", 0, ()), ("take", 0, ())), True), ((),))

    def test_just_so_many_standings(self):
        for cast, lapse, many in STANDINGS:
            self.assertEqual(len(Walk(cast, lapse).seen), many)
            if many == 5000:
                told = ends(cast, lapse)
                self.assertEqual(end_of(cast, told_by(list_to(cast, lapse, told[0]))), told[0])
                if lapse:
                    with self.assertRaises(CanNot):
                        run_to(LONE, cast, (9,) * 9)
                continue
            for call in (ends, lambda cast, lapse: list_to(cast, lapse, (9,) * 9)):
                with self.assertRaises(TooMany):
                    call(cast, lapse)
            if lapse:
                for plan in (LONE, changed(LONE, ("term",), at(1))):
                    with self.assertRaises(TooMany):
                        run_to(plan, cast, (9,) * 9)
            else:
                with self.assertRaises(TooMany):
                    stuck(cast)


def nexts(lock, client):
    """Entries that a client may hear next."""
    listener = lock.listener(client)
    told = [(word, one) for word in ("ask", "released") for one in range(3)]
    told += [("look", one, truth) for one in range(3) for truth in (True, False)] + [("not held", one, 0) for one in range(3)]
    told += [("deed", one, 0, listener.standing[one], listener.serial + 1, what) for one in listener.standing for what in [("get",)] + [
        ("put", v) for v in range(-2, 4)]]
    return [entry for entry in told if listener.fits(entry)]


def plain_steps(draw, cast):
    """Steps of the plain lock, quiet or not, by which the clients do what their PROGRAMS say."""
    lock, steps, rows = PlainLock(), [], [() for _ in cast]
    for _ in range(400):
        client = draw.randrange(len(cast))
        listener = lock.listener(client)
        told = [("end", one) for one in range(2)] + [("grant", one, (lock.granted.get(one, (0, 0))[0] + 1, client)) for one in range(2)]
        told += [(client, ("told", one, lock.promised[client, one])) for one in range(2) if (client, one) in lock.promised]
        told += [(client, ("not now", one)) for one in range(2)] + [(client, entry) for entry in nexts(lock, client)]
        told += [(client, entry, lock.integers.get(entry[1:3], 0)) for entry in nexts(lock, client) if entry[0] == "deed"]
        for one, place, serial in listener.deeds:
            answer = lock.done.get((client, one, place, serial))
            told.append((client, ("stale", one, place, serial) if answer is None else ("done", one, place, serial, answer)))
        step = draw.choice(told)
        if step[0] == "end" and draw.random() < 0.7 or not lock.lets(step):
            continue
        if step[0] not in ("grant", "end"):
            if not goes(cast[client], rows[client] + (step[1],)):
                continue
            rows[client] += (step[1],)
        lock.play(step)
        steps.append(step)
    return tuple(steps)


def locks_within(program):
    """The locks that occur in a PROGRAM, read one by one."""
    if program == ():
        return set()
    after = [part for part in program[2:] if isinstance(part, tuple)]
    if program[0] == "get":
        after = after[1:] + [case for _, case in program[3]]
    return set().union({program[1]}, *[locks_within(part) for part in after])


def some_lot_frees(plan, cast):
    """Whether some LOT frees itself where these locks occur, as its words say."""
    is_one = len(set().union(*[locks_within(program) for program in cast])) <= 1
    return "forgets" in plan[6] or any(
        all(plan[1][keeper][0] is not None or (is_one and plan[1][keeper][1] == "number") for keeper in lot) for lot in plan[0])


class Runs(unittest.TestCase):
    def check(self, plan, cast, end):
        """Whether there is a RUN that comes to this END of ends, and run_to tells one exactly then."""
        is_so = can_hold(plan) and some_lot_frees(plan, cast)
        if is_so:
            run = run_to(plan, cast, end)
            self.assertTrue(is_run(plan, run))
            self.assertEqual(end_of(cast, telling(plan, run)), end)
        else:
            with self.assertRaises(CanNot):
                run_to(plan, cast, end)
        return is_so

    def test_drawn(self):
        draw = random.Random(202)
        found = {True: 0, False: 0}
        for _ in range(90):
            cast = a_cast(draw, 4, locks=draw.randint(1, 2))
            plan = a_plan(draw, stores=((True, True),))
            if len(Walk(cast, True).seen) > 5000:
                continue
            for end in ends(cast, True)[:3]:
                found[self.check(plan, cast, end)] += 1
        self.assertGreater(min(found.values()), 15)

    def test_drawn_by_numbers_alone(self):
        """Where the record "number" frees a LOT, all the locks of the CAST count, those of its LIST or not."""
        draw = random.Random(206)
        found = {}
        for _ in range(250):
            cast = a_cast(draw, 4, locks=draw.randint(1, 3))
            plan = changed(changed(LONE, ("length", 0), None), ("record", 0), "number")
            if len(Walk(cast, True).seen) > 5000:
                continue
            for end in ends(cast, True)[:3]:
                played = {step[1] if step[0] in ("grant", "end") else step[1][1] for step in list_to(cast, True, end)}
                kind = self.check(plan, cast, end), len(played) <= 1
                found[kind] = found.get(kind, 0) + 1
        self.assertEqual(sorted(found), [(False, False), (False, True), (True, True)])
        self.assertGreater(min(found.values()), 15)

    def test_locks_of_the_cast(self):
        """Those behind a case, a not held, a look, a lapse count too, and those of each PROGRAM."""
        plan = changed(changed(LONE, ("length", 0), None), ("record", 0), "number")
        for lock in (0, 1, 9):
            other = ("take", lock, ())
            for cast, end in (
                    ((("put", 0, 0, 1, other, ()),), (0,)), ((("put", 0, 0, 1, (), other),), (0,)),
                    ((("get", 0, 0, ((0, other),), (), ()),), (0,)), ((("get", 0, 0, (), other, ()),), (0,)),
                    ((("look", 0, other, ()),), ()), ((("look", 0, (), other),), ()), ((("free", 0, other),), ()),
                    ((("take", 0, other),), ()), ((("free", 0, ()), other), ()), (((), ("free", 0, ()), ("free", lock, ())), ()),
                    ((("take", 0, ("put", 0, 0, 1, ("put", 0, 0, 2, (), other), ())),), (2,))):
                with self.subTest(cast=cast):
                    self.assertEqual(self.check(plan, cast, end), lock == 0)
                    self.assertTrue(self.check(changed(plan, ("length", 0), at(8)), cast, end))
                    self.assertTrue(self.check(changed(plan, ("faults",), ("forgets",)), cast, end))
                    self.assertFalse(self.check(changed(plan, ("record", 0), "all"), cast, end))
        self.assertEqual(run_to(plan, ((),), ()), ())

    def test_each_end_of_a_right_plan(self):
        plan = changed(LONE, ("length", 0), at(9))
        self.assertTrue(is_right(plan, 2, "looks"))
        for cast in ((FIRST, SECOND), CROSSED, (FIRST, SECOND, FIRST)):
            for end in ends(cast, True):
                run = run_to(plan, cast, end)
                self.assertTrue(is_run(plan, run))
                self.assertEqual(end_of(cast, telling(plan, run)), end)

    def test_ends_of_plain_tellings(self):
        """The END of each plain TELLING of a CAST, also of one in which deeds are not done, is one of ends."""
        draw = random.Random(204)
        found, stale = 0, 0
        for _ in range(150):
            cast = a_cast(draw, 4)
            steps = plain_steps(draw, cast)
            self.assertTrue(is_list(steps))
            told = told_by(steps)
            end = end_of(cast, told)
            if end is not None:
                self.assertIn(end, ends(cast, True))
                found += 1
                stale += any(step[0] not in ("grant", "end") and step[1][0] in ("stale", "not now") for step in steps)
        self.assertGreater(found, 80)
        self.assertGreater(stale, 8)

    def test_ends_of_runs_of_right_plans(self):
        draw = random.Random(205)
        found = 0
        for k in range(150):
            plan = a_plan(draw, stores=((True, True),))
            if not is_right(plan, 2, "looks") or not can_hold(plan):
                continue
            for many in range(20, 60, 4):
                told = telling(plan, a_run(draw, plan, many, clients=2, locks=2))
                rows = dict(told)
                rows = [rows.get(("client", client), ()) for client in range(2)]
                if all(waits_well(row) and (not row or row[-1][0] not in ("ask", "not now", "deed")) for row in rows):
                    cast = tuple(program_of(row) for row in rows)
                    self.assertIn(end_of(cast, told), ends(cast, True))
                    found += 1
        self.assertGreater(found, 15)

    def test_cannot(self):
        for plan, cast, end in (
                (LONE, (FIRST, SECOND), (3,)), (LONE, (FIRST, SECOND), ()), (changed(LONE, ("term",), at(1)), (FIRST, SECOND), (1,)),
                (changed(LONE, ("length", 0), None), (FIRST, SECOND), (1,)), (LONE, (("take", 0, ("put", 0, 1, 1, (), ())),), (1,)),
                (changed(LONE, ("length", 0), None), (FIRST,), (1,)), (LONE, (("look", 0, ("put", 0, 1, 1, (), ()), ()),), (0,)),
                (changed(LONE, ("term",), at(1)), (("look", 0, (), ()),), ())):
            with self.assertRaises(CanNot):
                run_to(plan, cast, end)
        forgets = changed(changed(LONE, ("length", 0), None), ("record", 0), "number")
        run = run_to(forgets, (FIRST, SECOND), (2,))
        self.assertEqual(end_of((FIRST, SECOND), telling(forgets, run)), (2,))


class Calls(unittest.TestCase):
    def test_rules_for_every_function(self):
        row = (ASK, TOLD, DEED, ("done", 0, 1, 4, 2))
        told = told_by(list_to((FIRST, SECOND), True, (2,)))
        check_call(self, is_program, ("thing",), (FIRST,), things=(0,))
        check_call(self, is_cast, ("thing",), (CROSSED,), things=(0,))
        check_call(self, goes, ("program", "row"), (program_of(row), row))
        check_call(self, goes, ("program", "row"), (FIRST, row))
        check_call(self, program_of, ("row",), (row,))
        check_call(self, program_of, ("row",), (row[:3] + (ASK,),))
        check_call(self, stores_of, ("cast",), ((FIRST, SECOND),))
        check_call(self, end_of, ("cast", "telling"), ((FIRST, SECOND), told))
        check_call(self, end_of, ("cast", "telling"), ((SECOND,), told))
        check_call(self, ends, ("cast", "lapse"), ((FIRST, SECOND), True))
        check_call(self, list_to, ("cast", "lapse", "end"), ((FIRST, SECOND), True, (2,)))
        check_call(self, list_to, ("cast", "lapse", "end"), ((FIRST, SECOND), True, (5,)))
        check_call(self, stuck, ("cast",), (CROSSED,))
        check_call(self, stuck, ("cast",), ((FIRST,),))
        check_call(self, run_to, ("plan", "cast", "end"), (LONE, (FIRST, SECOND), (2,)))
        check_call(self, run_to, ("plan", "cast", "end"), (LONE, (FIRST, SECOND), (4,)))

    def test_at_the_bounds(self):
        draw = random.Random(203)
        deep = tuple(a_program(draw, 8, 3) for _ in range(3))
        try:
            told = ends(deep, True)
            self.assertEqual(told, Walk(deep, True).all_ends(deep))
        except TooMany:
            self.assertGreater(len(Walk(deep, True).seen), 5000)


def frees(many, lock):
    """A PROGRAM that has nothing to release, so often."""
    program = ()
    for _ in range(many):
        program = ("free", lock, program)
    return program


# Two clients with 625 standings, and two with 1,667, with lapse.
SOME = (
    ("take", 0, ("put", 0, 0, 1, ("take", 0, ("free", 1, ("free", 1, ("free", 0, ("put", 0, 0, 1, ("put", 0, 0, 2, (), ()),
     ("put", 0, 0, 2, (), ())))))), ())),
    ("take", 1, ("free", 0, ("look", 1, ("take", 0, ("put", 1, 0, 1, ("take", 1, ("take", 1, ("put", 0, 0, 0, (), ()))),
     ("take", 1, ("take", 1, ("put", 0, 0, 0, (), ()))))), ()))),
)
MORE = (
    ("take", 2, ("take", 1, ("take", 1, ("put", 1, 0, 0, ("take", 2, ("look", 2, ("free", 1, ()), ("free", 1, ()))),
     ("take", 2, ("look", 2, ("free", 1, ()), ("free", 1, ()))))))),
    ("free", 0, ("take", 0, ("look", 0, ("put", 2, 0, 2, ("take", 2, ("take", 1, ("look", 1, ("put", 1, 0, 0, (), ()),
     ("put", 1, 0, 0, (), ())))), ("take", 2, ("take", 1, ("look", 1, ("put", 1, 0, 0, (), ()), ("put", 1, 0, 0, (), ()))))),
     ("put", 2, 0, 2, ("take", 2, ("take", 1, ("look", 1, ("put", 1, 0, 0, (), ()), ("put", 1, 0, 0, (), ())))), ("take", 2,
     ("take", 1, ("look", 1, ("put", 1, 0, 0, (), ()), ("put", 1, 0, 0, (), ())))))))),
)
# CASTS with just 5,000 standings, and with one more or some more.
STANDINGS = ((SOME + (frees(7, 9),), True, 5000), (MORE + (frees(2, 9),), True, 5001), ((frees(7, 0), frees(24, 1), frees(24, 2)), False, 5000),
             ((frees(8, 0), frees(24, 1), frees(24, 2)), False, 5625))


if __name__ == "__main__":
    unittest.main()
