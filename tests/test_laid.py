"""[18]: orders of STEPS made of what was told, and RUNS of quiet LISTS."""

import random
import unittest

from plainlock.errors import CanNot, Unfit
from plainlock.laid import by_number, by_told, follows, goes_down, is_quiet, ranked, run_of
from plainlock.plain import is_list, misfit, told_by
from plainlock.plans import can_hold, changed
from plainlock.runs import Machine, is_run, telling
from plainlock.ways import open_pairs, open_run
from tests.drawing import a_list, a_plan, a_quiet_list, a_run
from tests.helping import LONE, at, bent, check_call
from tests.test_plain import Drawn

ME, THEM, KEEP, SHOP = ("client", 0), ("client", 1), ("keeper", 0), ("store", 0, 0)
ONE_ROW = (("ask", 0), ("told", 0, (1, 0)), ("deed", 0, 0, (1, 0), 2, ("put", 4)), ("look", 0, False))
NEXT_ROW = (("ask", 0), ("told", 0, (2, 1)), ("deed", 0, 0, (2, 1), 5, ("put", 5)), ("done", 0, 0, 5, 4))
SHOP_ROW = (((1, 0), 2, ("put", 4), 0), ((2, 1), 5, ("put", 5), 4))
ROWS = ((ME, ONE_ROW), (THEM, NEXT_ROW), (SHOP, SHOP_ROW))
UNFIT = ((ME, (("released", 0),)),)
# A quiet LIST of two clients.
QUIET = ((0, ("ask", 0)), (1, ("ask", 0)), ("grant", 0, (1, 0)), (0, ("told", 0, (1, 0))), (0, ("look", 0, True)),
         (0, ("deed", 0, 0, (1, 0), 2, ("put", 4)), 0), (0, ("done", 0, 0, 2, 0)), (0, ("released", 0)), ("grant", 0, (2, 1)),
         (1, ("told", 0, (2, 1))), (1, ("deed", 0, 0, (2, 1), 7, ("get",)), 4), (1, ("done", 0, 0, 7, 4)), ("end", 0), (1, ("not held", 0, 0)))


def up(told):
    """Whether no store's ROW goes down."""
    return all(one[:2] < other[:2] for house, row in told if house[0] == "store" for one, other in zip(row, row[1:]))


def numbers_again(told):
    """by_number, as the words have it; a holder is followed step by step."""
    answers = {house[1:] + entry[:2]: entry[3] for house, row in told if house[0] == "store" for entry in reversed(row)}
    clients = [(house[1], row) for house, row in told if house[0] == "client"]
    steps, parts = [], {}
    for client, row in clients:
        now = steps
        for entry in row:
            if entry[0] == "told":
                now = parts.setdefault(entry[2], [("grant", entry[1], entry[2])])
            now.append((client, entry) + ((answers[entry[1:5]],) if entry[0] == "deed" and entry[1:5] in answers else ()))
    for number in sorted(parts):
        steps.extend(parts[number])
    return ended(steps)


def ended(steps):
    """These STEPS with their ends."""
    holders, stands, deeds, found = {}, {}, {}, []
    for step in steps:
        lock = step[1] if step[0] == "grant" else step[1][1]
        holder = holders.get(lock)
        if step[0] == "grant":
            if holder is not None:
                found.append(("end", lock))
            holders[lock] = step[2]
            found.append(step)
            continue
        client, entry = step[:2]
        own = stands.get((client, lock))
        falls = entry[0] == "not held" or entry[:1] + entry[2:] == ("look", False)
        if falls and own is not None and own == holder:
            found.append(("end", lock))
            holders[lock] = None
        if entry[0] == "stale" and deeds[(client,) + entry[1:4]] == holder and holder is not None:
            found.append(("end", lock))
            holders[lock] = None
        if entry[0] == "deed":
            deeds[(client,) + entry[1:3] + (entry[4],)] = entry[3]
        if entry[0] == "told":
            stands[client, lock] = entry[2]
        if entry[0] == "released" and own == holders.get(lock):
            holders[lock] = None
        if falls or entry[0] == "released" or (entry[0] == "stale" and deeds[(client,) + entry[1:4]] == own):
            stands[client, lock] = None
        found.append(step)
    return tuple(found)


class ByNumber(unittest.TestCase):
    def test_step_by_step(self):
        self.assertEqual(by_number(()), ())
        lone = ((ME, (("look", 0, False), ("ask", 0))), (THEM, (("ask", 0), ("not now", 0))))
        self.assertEqual(by_number(lone), ((0, ("look", 0, False)), (0, ("ask", 0)), (1, ("ask", 0)), (1, ("not now", 0))))
        # numbers of one client, between which another one is told; what is heard behind goes with its told
        one = (("ask", 0), ("told", 0, (1, 0)), ("released", 0), ("ask", 0), ("told", 0, (5, 0)), ("look", 0, True))
        two = (("not held", 0, 3), ("ask", 0), ("told", 0, (3, 1)), ("deed", 0, 0, (3, 1), 1, ("get",)), ("stale", 0, 0, 1), ("ask", 0))
        self.assertEqual(by_number(((ME, one), (THEM, two))), (
            (0, one[0]), (1, two[0]), (1, two[1]), ("grant", 0, (1, 0)), (0, one[1]), (0, one[2]), (0, one[3]), ("grant", 0, (3, 1)), (1, two[2]),
            (1, two[3]), ("end", 0), (1, two[4]), (1, two[5]), ("grant", 0, (5, 0)), (0, one[4]), (0, one[5])))

    def test_ends(self):
        row = (("ask", 0), ("told", 0, (1, 0)))
        for entry in (("look", 0, False), ("not held", 0, 0)):
            self.assertEqual(by_number(((ME, row + (entry, entry)),))[3:], (("end", 0), (0, entry), (0, entry)))
            self.assertEqual(by_number(((ME, row + (("released", 0), entry)),))[3:], ((0, ("released", 0)), (0, entry)))
        deed, stale = ("deed", 0, 0, (1, 0), 1, ("get",)), ("stale", 0, 0, 1)
        self.assertEqual(by_number(((ME, row + (deed, stale)),))[3:], ((0, deed), ("end", 0), (0, stale)))
        self.assertEqual(by_number(((ME, row + (deed, ("released", 0), stale)),))[3:], ((0, deed), (0, ("released", 0)), (0, stale)))
        self.assertEqual(by_number(((ME, row), (THEM, (("ask", 0), ("told", 0, (2, 1))))))[4:], (("end", 0), ("grant", 0, (2, 1)), (1, ("told", 0, (2, 1)))))

    def test_errors(self):
        two = ((ME, (("ask", 0), ("ask", 1))),)
        self.assertRaises(CanNot, by_number, two)
        self.assertRaises(CanNot, by_number, ((ME, (("ask", 0),)), (THEM, (("ask", 4),))))
        self.assertRaises(Unfit, by_number, UNFIT)
        self.assertRaises(Unfit, by_number, ((ME, (("ask", 0), ("ask", 1), ("released", 2))),))
        for some in (ROWS, two, UNFIT):
            check_call(self, by_number, ("telling",), (some,))

    def test_drawn(self):
        draw = random.Random(1)
        seen = {True: 0, False: 0}
        for k in range(300):
            told = Drawn(draw, 3, 1, 8).telling if k < 200 else told_by(a_list(draw, 40, 3, 1))
            steps = by_number(told)
            self.assertEqual(steps, numbers_again(told))
            self.assertIs(is_list(steps) and told_by(steps) == told, up(told))
            self.assertIs(goes_down(told) is None, up(told))
            seen[up(told)] += 1
        self.assertGreater(min(seen.values()), 60)


class ByTold(unittest.TestCase):
    def event(self, house, moment, act):
        return (house, at(moment), None if house[0] == "store" else at(moment), act)

    def test_step_by_step(self):
        asks = [self.event(ME, 0, ("ask", 0)), self.event(KEEP, 1, ("take", 0)), self.event(THEM, 8, ("ask", 0)), self.event(KEEP, 9, ("take", 2)),
                self.event(THEM, 10, ("take", 3))]
        # client 0 hears of its grant behind client 1
        plan = changed(changed(LONE, ("most", "grant"), None), ("term",), at(20))
        run = tuple(asks) + (self.event(ME, 11, ("take", 1)), self.event(ME, 11, ("look", 0)))
        self.assertEqual(by_told(plan, run), (
            (0, ("ask", 0)), (1, ("ask", 0)), ("grant", 0, (1, 0)), ("end", 0), ("grant", 0, (1, 1)), (1, ("told", 0, (1, 1))), (0, ("told", 0, (1, 0))),
            (0, ("look", 0, True))))
        # a number that is never told is not granted, one asked for later not yet
        self.assertEqual(by_told(plan, asks), ((0, ("ask", 0)), (1, ("ask", 0)), ("grant", 0, (1, 1)), (1, ("told", 0, (1, 1)))))
        deed = (self.event(THEM, 10, ("deed", 0, 0, ("put", 3))), self.event(THEM, 10, ("send",)), self.event(SHOP, 11, ("take", 6)))
        told = by_told(plan, tuple(asks) + deed[:2])
        self.assertEqual(told[-1], (1, ("deed", 0, 0, (1, 1), 2, ("put", 3))))
        deed = deed[:2] + (self.event(SHOP, 11, ("take", 6)), self.event(THEM, 11, ("look", 0)))
        self.assertEqual(by_told(plan, tuple(asks) + deed)[-2:], ((1, ("deed", 0, 0, (1, 1), 2, ("put", 3)), 0), (1, ("look", 0, True))))

    def test_the_first_answer(self):
        """A store that does not keep may do a deed twice; what it first answered counts."""
        plan = changed(LONE, ("keeps", 0), False)
        run = (self.event(ME, 0, ("ask", 0)), self.event(KEEP, 1, ("take", 0)), self.event(ME, 2, ("take", 1)),
               self.event(ME, 2, ("deed", 0, 0, ("put", 3))), self.event(ME, 2, ("send",)), self.event(SHOP, 3, ("take", 4)), self.event(SHOP, 3, ("fall",)),
               self.event(SHOP, 4, ("take", 4)))
        self.assertEqual(by_told(plan, run)[-1], (0, ("deed", 0, 0, (1, 0), 2, ("put", 3)), 0))
        self.assertIsNotNone(misfit(telling(plan, run)))

    def test_errors_and_calls(self):
        run = (self.event(ME, 0, ("ask", 0)), self.event(KEEP, 1, ("take", 0)), self.event(ME, 2, ("take", 1)))
        self.assertRaises(Unfit, by_told, LONE, run[1:])
        self.assertRaises(Unfit, by_told, LONE, run + (self.event(KEEP, 2, ("switch",)),))
        for some in (run, run[1:]):
            check_call(self, by_told, ("plan", "run"), (LONE, some))
        self.assertEqual(by_told(LONE, ()), ())

    def entries(self, plan, run):
        machine, found = Machine(plan), []
        for event in run:
            before = machine.row(event[0])
            machine.play(event)
            if event[0][0] == "client":
                found += [(event[0][1], entry) for entry in machine.row(event[0])[len(before):]]
        return found

    def again(self, plan, run):
        """by_told, as the words have it."""
        entries = self.entries(plan, run)
        answers = {house[1:] + entry[:2]: entry[3] for house, row in telling(plan, run) if house[0] == "store" for entry in reversed(row)}
        told = {(entry[1], entry[2]): [k for k in range(at_) if entries[k] == (client, ("ask", entry[1]))][-1]
                for at_, (client, entry) in enumerate(entries) if entry[0] == "told"}
        granted, steps = set(), []
        for at_, (client, entry) in enumerate(entries):
            if entry[0] == "told":
                for lock, number in sorted(told):
                    if lock == entry[1] and number <= entry[2] and (lock, number) not in granted and told[lock, number] < at_:
                        granted.add((lock, number))
                        steps.append(("grant", lock, number))
            steps.append((client, entry) + ((answers[entry[1:5]],) if entry[0] == "deed" and entry[1:5] in answers else ()))
        return ended(steps)

    def is_in_order(self, plan, run):
        """What the guarantee asks of a RUN."""
        told = telling(plan, run)
        if misfit(told) is not None or not up(told):
            return False
        entries = self.entries(plan, run)
        done = {house[1:] + entry[:2] for house, row in told if house[0] == "store" for entry in row}
        tells = [(k, entry[1], entry[2]) for k, (_, entry) in enumerate(entries) if entry[0] == "told"]
        has_look = any(event[3][0] == "look" for event in run)
        waived = plan[4][4] and all(asks and keeps for asks, keeps in plan[5]) and not has_look
        standing = {}
        for k, (client, entry) in enumerate(entries):
            number = None
            if entry[0] == "told":
                standing[client, entry[1]] = entry[2]
                number = entry[2]
                ask = [j for j in range(k) if entries[j] == (client, ("ask", entry[1]))][-1]
                if any(at_ < ask and lock == entry[1] and other > number for at_, lock, other in tells):
                    return False
            if not waived and (entry[:1] + entry[2:] == ("look", True) or (entry[0] == "deed" and entry[1:5] in done)):
                own = standing[client, entry[1]]
                if any(at_ < k and lock == entry[1] and other > own for at_, lock, other in tells):
                    return False
        return True

    def test_drawn(self):
        draw = random.Random(2)
        seen = {True: 0, False: 0}
        told_numbers = 0
        for k in range(300):
            plan = a_plan(draw, draw.randint(1, 2), faults=() if k % 2 else None)
            run = a_run(draw, plan, 70, 3, draw.choice((1, 1, 2)))
            steps = by_told(plan, run)
            self.assertEqual(steps, self.again(plan, run))
            told_numbers += any(step[0] == "grant" for step in steps)
            if self.is_in_order(plan, run):
                self.assertTrue(is_list(steps), (plan, run))
                self.assertEqual(told_by(steps), telling(plan, run))
            seen[self.is_in_order(plan, run)] += 1
        self.assertGreater(told_numbers, 100)
        self.assertGreater(seen[True], 60)

    def test_of_open_runs(self):
        draw = random.Random(3)
        for _ in range(60):
            plan = a_plan(draw, draw.randint(1, 2))
            for goal in ("look", "store"):
                for lot, other in open_pairs(plan, goal)[:2]:
                    try:
                        run = open_run(plan, lot, other, goal)
                    except CanNot:
                        continue
                    self.assertEqual(by_told(plan, run), self.again(plan, run))
                    if self.is_in_order(plan, run):
                        self.assertEqual(told_by(by_told(plan, run)), telling(plan, run))


class Down(unittest.TestCase):
    def test_the_first_entry(self):
        number, other = (1, 0), (2, 0)
        rows = (("ask", 0), ("told", 0, number), ("deed", 0, 0, number, 1, ("get",)), ("deed", 0, 0, number, 3, ("get",)), ("deed", 0, 1, number, 4, ("get",)),
                ("released", 0), ("ask", 0), ("told", 0, other), ("deed", 0, 1, other, 5, ("get",)), ("deed", 0, 0, other, 6, ("get",)))
        def entry(which, serial):
            return (which, serial, ("get",), 0)
        for first, second, wanted in (
                ((entry(number, 1), entry(number, 3), entry(other, 6)), (), None), ((entry(number, 3), entry(number, 1)), (), (SHOP, 1)),
                ((entry(number, 1), entry(other, 6), entry(number, 3)), (), (SHOP, 2)), ((), (entry(other, 5), entry(number, 4)), (("store", 0, 1), 1)),
                ((entry(other, 6), entry(number, 3), entry(number, 1)), (entry(other, 5), entry(number, 4)), (SHOP, 1)),
                ((entry(number, 3),), (entry(number, 4), entry(other, 5)), None)):
            told = ((ME, rows),) + tuple((house, row) for house, row in ((SHOP, first), (("store", 0, 1), second)) if row)
            self.assertEqual(goes_down(told), wanted)
            check_call(self, goes_down, ("telling",), (told,))
        self.assertIsNone(goes_down(()))
        self.assertRaises(Unfit, goes_down, UNFIT)


class Quiet(unittest.TestCase):
    def check(self, wanted, *steps):
        self.assertTrue(is_list(steps), steps)
        self.assertIs(is_quiet(steps), wanted, steps)

    def test_each_condition_by_itself(self):
        self.check(True)
        self.check(True, *QUIET)
        for k in (3, 6, 9, 11):
            self.check(False, *QUIET[:k])
            self.check(True, *QUIET[:k + 1])
        # something stands between a grant and its told, a deed and its answer
        self.check(False, *QUIET[:3], (1, ("look", 0, False)), QUIET[3])
        self.check(False, *QUIET[:6], (1, ("look", 0, False)), QUIET[6])
        self.check(False, *QUIET[:3], ("end", 0), QUIET[3])
        # deeds that are not done
        deed = QUIET[5][:2]
        self.check(False, *QUIET[:4], deed)
        self.check(False, *QUIET[:4], ("end", 0), deed)
        self.check(False, *QUIET[:4], deed, ("end", 0), (0, ("stale", 0, 0, 2)))
        self.check(False, (0, ("ask", 0)), (0, ("not now", 0)))
        self.check(True, (0, ("ask", 0)), (0, ("look", 0, False)), (0, ("not held", 3, 7)))

    def test_unfit(self):
        for steps in (QUIET[1:], QUIET + (("end", 0),), (None,), ((0, ("told", 0, (1, 0))),)):
            self.assertRaises(Unfit, is_quiet, steps)
            self.assertRaises(Unfit, follows, LONE, steps)
            self.assertRaises(Unfit, run_of, LONE, steps)
            check_call(self, is_quiet, ("steps",), (steps,))
        check_call(self, is_quiet, ("steps",), (QUIET,))
        # a LIST that is not quiet may follow, but has no such RUN
        self.assertIs(follows(LONE, QUIET[:3]), True)
        self.assertRaises(Unfit, run_of, LONE, QUIET[:3])


def with_keepers(*keepers, lots=None, faults=()):
    return (lots or (tuple(range(len(keepers))),), tuple(keepers)) + LONE[2:6] + (faults,)


LONG, NEVER, FALLS = (at(8), "all", at(0)), (None, "all", at(0)), (None, "number", at(3))


class Follows(unittest.TestCase):
    # grants without a release between them
    LAPSED = QUIET[:7] + (("end", 0),) + QUIET[8:]

    def test_places(self):
        for place, wanted in ((0, True), (1, False)):
            self.assertIs(follows(LONE, ((0, ("not held", 5, place)),)), wanted)
            deed = (0, ("deed", 0, place, (1, 0), 2, ("put", 4)))
            self.assertIs(follows(LONE, QUIET[:4] + (deed + (0,),)), wanted)
            self.assertIs(follows(LONE, QUIET[:4] + (deed,)), wanted)

    def test_where_no_hold_can_be_had(self):
        plan = changed(LONE, ("term",), (3, 2))
        self.assertIs(follows(plan, QUIET[:2]), True)
        self.assertIs(follows(plan, QUIET[:4]), False)
        self.assertIs(follows(changed(plan, ("counts",), "taken"), QUIET), True)
        self.assertIs(follows(changed(plan, ("faults",), ("bare grant",)), QUIET), True)

    def test_a_lot_that_frees_itself(self):
        for plan, wanted in ((with_keepers(LONG), True), (with_keepers(LONG, LONG), True), (with_keepers(LONG, NEVER), False), (with_keepers(NEVER), False),
                             (with_keepers(FALLS), True), (with_keepers(LONG, FALLS), True), (with_keepers(NEVER, FALLS), False),
                             (with_keepers(NEVER, faults=("forgets",)), True), (with_keepers(NEVER, faults=("revives",)), False),
                             (with_keepers(NEVER, LONG, lots=((0,), (0, 1))), False), (with_keepers(NEVER, LONG, lots=((0,), (1,))), True)):
            self.assertIs(follows(plan, self.LAPSED), wanted, plan)
            self.assertIs(follows(plan, QUIET), True)
        # the record "number" counts where but one lock occurs
        two = self.LAPSED + ((0, ("look", 1, False)),)
        for plan, wanted in ((with_keepers(FALLS), False), (with_keepers(LONG, FALLS), False), (with_keepers(LONG), True),
                             (with_keepers(NEVER, faults=("forgets",)), True)):
            self.assertIs(follows(plan, two), wanted)

    def test_numbers_left_by_their_clients(self):
        plan = with_keepers(NEVER)
        held, after = QUIET[:4], QUIET[8:10]
        for left, wanted in (((0, ("released", 0)),), True), ((("end", 0), (0, ("look", 0, False))), True), ((("end", 0), (0, ("not held", 0, 0))), True), (
                (("end", 0),), False), (((0, ("look", 0, True)), ("end", 0)), False), ((("end", 0), (1, ("look", 0, False))), False), (
                ((0, QUIET[5][1]), ("end", 0), (0, ("stale", 0, 0, 2))), False):
            self.assertIs(follows(plan, held + left + after), wanted, left)
        # left behind the next grant is too late
        self.assertIs(follows(plan, held + (("end", 0),) + after + ((0, ("look", 0, False)),)), False)
        # by locks
        other = (0, ("ask", 1)), (1, ("ask", 1)), ("grant", 1, (1, 1)), (1, ("told", 1, (1, 1)))
        self.assertIs(follows(plan, held + other), True)
        self.assertIs(follows(plan, held + other + ((0, ("released", 0)),) + after), True)
        self.assertIs(follows(plan, held + other + ((1, ("released", 1)), ("end", 0)) + after), False)

    def test_rules_for_calls(self):
        for plan in (LONE, with_keepers(NEVER)):
            for steps in (QUIET, self.LAPSED, QUIET[1:]):
                check_call(self, follows, ("plan", "steps"), (plan, steps))
                check_call(self, run_of, ("plan", "steps"), (plan, steps))


class Ranked(unittest.TestCase):
    def test_by_hand(self):
        one = (("ask", 0), ("told", 0, (4, 7)), ("ask", 2), ("deed", 0, 1, (4, 7), 5, ("get",)), ("told", 2, (9, 7)), ("deed", 2, 0, (9, 7), 8, ("put", 6)),
               ("deed", 0, 1, (4, 7), 9, ("get",)), ("done", 2, 0, 8, 0), ("stale", 0, 1, 5), ("not held", 0, 1))
        two = (("ask", 0), ("told", 0, (4, 3)), ("released", 0), ("ask", 0), ("told", 0, (7, 3)), ("deed", 0, 1, (7, 3), 5, ("put", 2)), ("look", 0, True))
        told = ((("client", 3), two), (("client", 7), one), (("store", 0, 1), (((7, 3), 5, ("put", 2), 0), ((4, 7), 9, ("get",), 2))),
                (("store", 2, 0), (((9, 7), 8, ("put", 6), 0),)))
        self.assertIsNone(misfit(told))
        self.assertEqual(ranked(told), (
            (("client", 3), (("ask", 0), ("told", 0, (1, 3)), ("released", 0), ("ask", 0), ("told", 0, (3, 3)), ("deed", 0, 1, (3, 3), 1, ("put", 2)),
                             ("look", 0, True))),
            (("client", 7), (("ask", 0), ("told", 0, (2, 7)), ("ask", 2), ("deed", 0, 1, (2, 7), 1, ("get",)), ("told", 2, (1, 7)),
                             ("deed", 2, 0, (1, 7), 2, ("put", 6)), ("deed", 0, 1, (2, 7), 3, ("get",)), ("done", 2, 0, 2, 0), ("stale", 0, 1, 1),
                             ("not held", 0, 1))),
            (("store", 0, 1), (((3, 3), 1, ("put", 2), 0), ((2, 7), 3, ("get",), 2))), (("store", 2, 0), (((1, 7), 2, ("put", 6), 0),))))
        check_call(self, ranked, ("telling",), (told,))
        check_call(self, ranked, ("telling",), (UNFIT,))
        self.assertRaises(Unfit, ranked, UNFIT)
        self.assertEqual(ranked(()), ())

    def test_drawn(self):
        draw = random.Random(4)
        for _ in range(150):
            told = Drawn(draw, 3, 2, 9, 2).telling
            once = ranked(told)
            self.assertIsNone(misfit(once))
            self.assertEqual(ranked(once), once)
            # greater numbers and serials in the same order change nothing
            grown = tuple((house, tuple(self.grown(entry) for entry in row)) for house, row in told)
            self.assertIsNone(misfit(grown))
            self.assertEqual(ranked(grown), once)

    def grown(self, entry):
        if entry[0] == "told":
            return bent(entry, (2, 0), lambda count: 3 * count + 1)
        if entry[0] == "deed":
            return bent(bent(entry, (3, 0), lambda count: 3 * count + 1), (4,), lambda serial: 5 * serial)
        if entry[0] in ("done", "stale"):
            return bent(entry, (3,), lambda serial: 5 * serial)
        if isinstance(entry[0], tuple):
            return bent(bent(entry, (0, 0), lambda count: 3 * count + 1), (1,), lambda serial: 5 * serial)
        return entry


class RunsOf(unittest.TestCase):
    def check(self, plan, steps):
        run = run_of(plan, steps)
        self.assertTrue(is_run(plan, run))
        self.assertEqual(ranked(telling(plan, run)), ranked(told_by(steps)))

    def test_by_hand(self):
        for steps in ((), QUIET, QUIET[:2], Follows.LAPSED):
            self.check(LONE, steps)
        for plan in (with_keepers(NEVER), with_keepers(FALLS), with_keepers(LONG, NEVER)):
            self.check(plan, QUIET)
        self.check(with_keepers(FALLS, LONG), Follows.LAPSED)
        self.check(with_keepers(NEVER, faults=("forgets",)), Follows.LAPSED)
        self.assertRaises(CanNot, run_of, with_keepers(NEVER), Follows.LAPSED)
        self.assertRaises(CanNot, run_of, changed(LONE, ("term",), (3, 2)), QUIET)
        self.assertRaises(CanNot, run_of, LONE, ((0, ("not held", 0, 1)),))
        self.check(changed(LONE, ("term",), (3, 2)), QUIET[:2])

    def test_drawn(self):
        draw = random.Random(5)
        seen, words = {True: 0, False: 0}, set()
        for _ in range(350):
            plan = a_plan(draw)
            steps = a_quiet_list(draw, draw.randint(5, 40), draw.randint(1, 3), draw.choice((1, 1, 2, 3)), len(plan[5]))
            self.assertTrue(is_quiet(steps))
            told = follows(plan, steps)
            seen[told] += 1
            if told:
                self.check(plan, steps)
                words |= set(plan[6]) | {plan[4][1], plan[4][3], plan[4][4]}
            else:
                self.assertRaises(CanNot, run_of, plan, steps)
        self.assertGreater(seen[True], 150)
        self.assertGreater(seen[False], 20)
        self.assertLessEqual({"sent", "taken", "once", "waits", True, False, "bare grant", "bare release", "forgets", "revives"}, words)

    def test_falls_only(self):
        """Keepers that never lapse, and forget by falls; one lock, and with "forgets" several."""
        draw = random.Random(6)
        many = 0
        for _ in range(120):
            plan = a_plan(draw, draw.randint(1, 3), sealed=False, faults=draw.choice(((), ("forgets",))))
            plan = plan[:1] + (tuple((None, "number", keeper[2]) for keeper in plan[1]),) + plan[2:]
            locks = draw.randint(1, 3) if plan[6] else 1
            steps = a_quiet_list(draw, 40, 3, locks, len(plan[5]))
            if can_hold(plan):
                self.check(plan, steps)
                many += 1
        self.assertGreater(many, 60)

    def test_where_no_hold_can_be_had_nothing_is_told(self):
        draw = random.Random(7)
        many = 0
        for _ in range(300):
            plan = a_plan(draw, 1, counts="sent", faults=())
            if not can_hold(plan):
                many += 1
                self.assertFalse(any(entry[0] == "told" for _, row in telling(plan, a_run(draw, plan, 60)) for entry in row))
        self.assertGreater(many, 20)

    def test_long_ones(self):
        draw = random.Random(8)
        for _ in range(4):
            plan = a_plan(draw, 4, faults=("forgets",), sealed=False, counts="taken")
            self.check(plan, a_quiet_list(draw, 60, 6, 3, len(plan[5])))


if __name__ == "__main__":
    unittest.main()
