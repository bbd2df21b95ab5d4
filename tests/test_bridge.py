"""[23]: the LOG of a RUN, and which looks are sure."""

import random
import unittest

from plainlock.bridge import (
    believed_by, is_unsure_run, log_moments, log_of, looks, shut_keepers, surely_at, unsure_run, world_of)
from plainlock.errors import CanNot
from plainlock.fractions import less, plus
from plainlock.plans import can_hold, changed
from plainlock.promises import keepers_with
from plainlock.rings import is_schedule
from plainlock.runs import Machine, is_run
from plainlock.views import is_log, is_world, web_of_log
from plainlock.ways import open_pairs, overlap, ways
from tests.drawing import a_plan, a_run
from tests.helping import LONE, ONE, at, check_call, outcome

ME, THEM, KEEP = ("client", 0), ("client", 1), ("keeper", 0)
COURSE = ((ME, at(0), at(0), ("ask", 0)), (KEEP, ONE, at(0), ("take", 0)), (ME, at(2), at(2), ("take", 1)), (THEM, at(8), at(0), ("ask", 0)),
          (KEEP, at(9), at(8), ("take", 3)), (ME, at(10), at(10), ("look", 0)))
SURE = changed(LONE, ("length", 0), (17, 2))
FAULTY = [changed(LONE, ("faults",), (fault,)) for fault in ("bare grant", "bare release", "forgets", "revives")]
SEALED = changed(LONE, ("sealed",), True)
# Two keepers, of which 1 forgets who is the holder.
PAIR = (((0,), (0, 1)), ((at(8), "all", at(0)), (at(99), "number", at(5)))) + LONE[2:]


def log_again(plan, run, lock):
    """The LOG and its moments, made EVENT by EVENT of what the Machine sends and tells."""
    machine, log, moments, stands, seen = Machine(plan), [], [], {}, []
    for number, event in enumerate(run):
        house, moment, reading, act = event
        holder = machine.record(house[1], lock)[1] if house[0] == "keeper" else None
        machine.play(event)
        sent = machine.letters()[number]
        entries = []
        if house[0] == "client":
            for goal, letter in sent:
                if letter[0] in ("ask", "release") and letter[1] == lock:
                    stands[number, goal] = len(log) + len(entries)
                    entries.append((letter[0], goal[1], letter[2]))
            for _, entry in machine.entries()[number]:
                if entry[1] == lock and (entry[0] == "deed" or entry == ("look", lock, True)):
                    seen.append(len(log))
                    entries.append(("look",))
        if act[0] == "take" and (act[1], house) in stands:
            place = stands[act[1], house]
            entries.append(("hear", place))
            if log[place][2][0] == "ask":
                (goal, letter), = sent
                stands[number, goal] = len(log) + 1
                asked, until = log[place][2][2], machine.record(house[1], lock)[2]
                word = "tell" if letter[0] == "refused" else "renew" if holder == asked else "grant"
                entries.append({"tell": ("tell", goal), "renew": ("renew", asked, until), "grant": ("grant", asked, until, None)}[word])
        if act == ("fall",) and house[0] == "keeper":
            entries.append(act)
        log += [(house, reading, entry) for entry in entries]
        moments += [moment for _ in entries]
    return tuple(log), tuple(moments), tuple(seen)


class Worlds(unittest.TestCase):
    def test_field_by_field(self):
        draw = random.Random(230)
        for _ in range(40):
            plan = a_plan(draw, faults=(), sealed=False)
            world = world_of(plan)
            self.assertTrue(is_world(world))
            clocks, legs, keepers, flight, lots = world
            self.assertEqual((clocks, lots, flight), (plan[2], plan[0], (at(0), at(0))))
            self.assertEqual(legs, tuple(leg + (False,) for leg in (plan[3][0], plan[3][1], (ONE, None), (ONE, None))))
            self.assertEqual(keepers, tuple((record == "all", grace) for _, record, grace in plan[1]))

    def test_cannot_ahead_of_all(self):
        for plan in FAULTY + [SEALED]:
            for call, given in ((world_of, ()), (log_of, (5, 0)), (log_moments, ((), 0)), (looks, (None, 0)), (believed_by, ((), 0, 9)),
                                (surely_at, (5, 0, 9)), (shut_keepers, ()), (unsure_run, (9,)), (is_unsure_run, (9, None))):
                self.assertIn("CanNot", outcome(call, plan, *given))


class Logs(unittest.TestCase):
    def check(self, plan, run, lock):
        log, moments, seen = log_again(plan, run, lock)
        self.assertEqual(log_of(plan, run, lock), log)
        self.assertEqual(log_moments(plan, run, lock), moments)
        self.assertEqual(looks(plan, run, lock), seen)
        world = world_of(plan)
        self.assertTrue(is_log(world, log))
        self.assertTrue(is_schedule(web_of_log(world, log), moments))
        return log

    def test_word_by_word(self):
        log = self.check(LONE, COURSE, 0)
        self.assertEqual(log, (
            (ME, at(0), ("ask", 0, (1, 0))), (KEEP, at(0), ("hear", 0)), (KEEP, at(0), ("grant", (1, 0), at(8), None)), (ME, at(2), ("hear", 2)),
            (THEM, at(0), ("ask", 0, (1, 1))), (KEEP, at(8), ("hear", 4)), (KEEP, at(8), ("grant", (1, 1), at(16), None)), (ME, at(10), ("look",))))
        self.assertEqual(self.check(LONE, COURSE, 1), ())

    def test_each_kind_of_event(self):
        run = (
            (ME, at(0), at(0), ("ask", 0)), (ME, at(0), at(0), ("anew", 0)), (ME, at(0), at(0), ("again", 0)), (THEM, at(0), at(0), ("ask", 0)),
            (KEEP, ONE, ONE, ("take", 1)), (KEEP, ONE, ONE, ("take", 2)), (KEEP, ONE, ONE, ("take", 2)), (KEEP, ONE, ONE, ("take", 3)),
            (ME, at(2), at(2), ("take", 4)), (ME, at(2), at(2), ("take", 4)), (THEM, at(2), at(2), ("take", 7)), (THEM, at(2), at(2), ("not now", 0)),
            (ME, at(3), at(3), ("look", 0)), (ME, at(3), at(3), ("deed", 0, 0, ("get",))), (ME, at(3), at(3), ("send",)),
            (KEEP, at(3), at(3), ("take", 11)), (("store", 0, 0), at(4), None, ("take", 14)), (("store", 0, 0), at(4), None, ("fall",)),
            (("keeper", 1), at(4), at(0), ("fall",)), (ME, at(5), at(5), ("take", 16)), (ME, at(11), at(11), ("look", 0)))
        log = self.check(PAIR, run, 0)
        words = [act[0] for _, _, act in log]
        self.assertEqual(words, ["ask"] * 8 + ["hear", "grant", "hear", "renew", "hear", "renew", "hear", "tell", "hear", "hear", "hear", "release",
                                               "release", "look", "look", "hear", "fall", "release", "release"])
        self.assertEqual([act[2] for _, _, act in log[:8]], [(1, 0), (1, 0), (2, 0), (2, 0), (2, 0), (2, 0), (1, 1), (1, 1)])
        self.assertEqual(log[15], (KEEP, ONE, ("tell", THEM)))
        self.assertEqual(looks(PAIR, run, 0), (21, 22))
        self.assertEqual([act for _, _, act in self.check(PAIR, run, 3)], [("fall",)])

    def test_release_that_waits(self):
        plan = changed(LONE, ("releases",), "waits")
        run = COURSE[:3] + ((ME, at(3), at(3), ("deed", 0, 0, ("get",))), (ME, at(3), at(3), ("send",)), (ME, at(3), at(3), ("release", 0)),
                            (("store", 0, 0), at(4), None, ("take", 4)), (ME, at(6), at(6), ("take", 6)), (KEEP, at(7), at(6), ("take", 7)))
        log = self.check(plan, run, 0)
        self.assertEqual([act for _, _, act in log[4:]], [("look",), ("release", 0, (1, 0)), ("hear", 5)])
        self.assertEqual(log_moments(plan, run, 0)[4:], (at(3), at(6), at(7)))

    def test_drawn(self):
        draw = random.Random(231)
        words = {}
        for k in range(120):
            plan = a_plan(draw, faults=(), sealed=False)
            run = a_run(draw, plan, 70, clients=3, locks=1 + k % 2)
            for lock in range(2):
                for _, _, act in self.check(plan, run, lock):
                    words[act[0]] = words.get(act[0], 0) + 1
        for word in ("ask", "release", "look", "hear", "grant", "renew", "tell", "fall"):
            self.assertGreater(words[word], 20, word)

    def test_errors_in_their_order(self):
        wrong = COURSE[1:]
        for call in (log_of, log_moments, looks):
            for run in (wrong, 5, COURSE + ((KEEP, at(9), at(9), ("fall",)),), ((ME, ONE),)):
                self.assertIn("Unfit", outcome(call, LONE, run, 0))
        for call in (believed_by, surely_at):
            self.assertIn("Unfit", outcome(call, LONE, wrong, 0, 7))
            for place in (0, 3, 8, -1):
                self.assertEqual(outcome(call, LONE, COURSE, 0, place), repr(("NoPlace", {"place": place})))
            self.assertIn("NoPlace", outcome(call, LONE, COURSE, 1, 7))


class Looks(unittest.TestCase):
    def test_of_the_course(self):
        self.assertEqual(believed_by(LONE, COURSE, 0, 7), ((0,),))
        self.assertEqual(surely_at(LONE, COURSE, 0, 7), ())
        soon = COURSE[:3] + ((ME, at(7), at(7), ("look", 0)),)
        self.assertEqual(surely_at(LONE, soon, 0, 4), (0,))

    def test_lots_by_which_it_believes(self):
        run = ((ME, at(0), at(0), ("ask", 0)), (ME, at(0), at(0), ("again", 0)), (KEEP, ONE, ONE, ("take", 0)), (("keeper", 1), at(2), at(2), ("take", 1)),
               (ME, at(3), at(3), ("take", 2)), (ME, at(3), at(3), ("look", 0)), (ME, at(4), at(4), ("take", 3)), (ME, at(4), at(4), ("look", 0)))
        places = looks(PAIR, run, 0)
        self.assertEqual([believed_by(PAIR, run, 0, place) for place in places], [((0,),), ((0,), (0, 1))])

    def test_shut_keepers_by_the_ways(self):
        draw = random.Random(232)
        found = {0: 0, 1: 0}
        for _ in range(80):
            plan = a_plan(draw, faults=(), sealed=False)
            told = shut_keepers(plan)
            for keeper in range(len(plan[1])):
                widths = [overlap(plan, way, "look") for way in ways(plan) if way[2] == keeper]
                is_shut = bool(widths) and not (can_hold(plan) and any(width is None or not less(width, at(0)) for width in widths))
                self.assertIs(keeper in told, is_shut)
                found[is_shut] += 1
            if can_hold(plan):
                common = all(set(lot) & set(other) & set(told) for lot in plan[0] for other in plan[0])
                self.assertIs(open_pairs(plan, "look") == (), common)
        self.assertGreater(min(found.values()), 30)
        self.assertEqual(shut_keepers(SURE), (0,))
        self.assertEqual(shut_keepers((((1,),),) + PAIR[1:]), ())
        self.assertEqual(shut_keepers((((1,),), PAIR[1][:1] + ((at(9), "all", at(0)),)) + PAIR[2:]), (1,))

    def test_all_looks_of_drawn_runs(self):
        """By whom the client believes and who is shut is surely with it; where all are shut each look is sure."""
        draw = random.Random(233)
        found = {"shut": 0, "open": 0}
        for k in range(250):
            plan = a_plan(draw, faults=(), sealed=False)
            shut = shut_keepers(plan)
            run = a_run(draw, plan, 45)
            moments = log_moments(plan, run, 0)
            for place in looks(plan, run, 0):
                lots = believed_by(plan, run, 0, place)
                self.assertTrue(lots)
                sure = surely_at(plan, run, 0, place)
                self.assertLessEqual(set(sure), set(keepers_with(world_of(plan), log_of(plan, run, 0), moments, place)))
                for keeper in {keeper for lot in lots for keeper in lot}:
                    found["shut" if keeper in shut else "open"] += 1
                    self.assertTrue(keeper in sure or keeper not in shut)
        self.assertGreater(min(found.values()), 25)


class UnsureRuns(unittest.TestCase):
    def check(self, plan, keeper):
        run, place = unsure_run(plan, keeper)
        self.assertTrue(is_run(plan, run))
        self.assertIn(place, looks(plan, run, 0))
        self.assertTrue(any(keeper in lot for lot in believed_by(plan, run, 0, place)))
        log, moments = log_of(plan, run, 0), log_moments(plan, run, 0)
        self.assertNotIn(keeper, keepers_with(world_of(plan), log, moments, place))
        self.assertNotIn(keeper, surely_at(plan, run, 0, place))
        self.assertTrue(is_unsure_run(plan, keeper, (run, place)))
        return run, place

    def test_drawn(self):
        draw = random.Random(234)
        found = {True: 0, False: 0}
        for _ in range(150):
            plan = a_plan(draw, faults=(), sealed=False)
            shut = shut_keepers(plan)
            for keeper in range(len(plan[1])):
                is_some = keeper not in shut and any(keeper in lot for lot in plan[0])
                found[is_some] += 1
                if is_some:
                    self.check(plan, keeper)
                else:
                    with self.assertRaises(CanNot):
                        unsure_run(plan, keeper)
        self.assertGreater(min(found.values()), 60)

    def test_at_the_border(self):
        for plan in (LONE, PAIR, changed(LONE, ("counts",), "taken"), changed(changed(LONE, ("counts",), "taken"), ("most", "grant"), None),
                     changed(LONE, ("slow", "client"), (1, 2)), changed(changed(LONE, ("length", 0), None), ("record", 0), "number")):
            self.check(plan, 0)
        self.check(PAIR, 1)
        with self.assertRaises(CanNot):
            unsure_run(changed(LONE, ("length", 0), (8001, 1000)), 0)

    def test_errors_in_their_order(self):
        for keeper in (1, -1):
            self.assertEqual(outcome(unsure_run, LONE, keeper), repr(("NoPlace", {"place": keeper})))
            self.assertIn("NoPlace", outcome(is_unsure_run, LONE, keeper, ()))
        self.assertIn("CanNot", outcome(unsure_run, SURE, 0))
        self.assertIn("CanNot", outcome(unsure_run, (((0,),),) + PAIR[1:], 1))
        self.assertEqual(is_unsure_run(SURE, 0, (COURSE, 7)), False)

    def test_bent(self):
        self.assertTrue(is_unsure_run(LONE, 0, (COURSE, 7)))
        for thing in ((COURSE, 6), (COURSE, 8), (COURSE, True), (COURSE, -1), (COURSE,), [COURSE, 7], (list(COURSE), 7), (COURSE[:5], 7), None,
                      (COURSE[1:], 6), (COURSE[:3] + ((ME, at(7), at(7), ("look", 0)),), 4), (COURSE, 7, 0), (COURSE, "7")):
            self.assertIs(is_unsure_run(LONE, 0, thing), False, thing)
        # It does not believe by a LOT with the keeper.
        self.assertEqual(believed_by(PAIR, COURSE, 0, looks(PAIR, COURSE, 0)[0]), ((0,),))
        self.assertIs(is_unsure_run(PAIR, 1, (COURSE, looks(PAIR, COURSE, 0)[0])), False)
        soon = COURSE[:4] + ((KEEP, at(9), at(8), ("take", 3)), (ME, at(10), (99, 10), ("look", 0)))
        self.assertIs(is_unsure_run(LONE, 0, (soon, 7)), False)
        # By an inch later the grant is not early enough.
        late = COURSE[:3] + ((THEM, plus(at(8), (1, 100)), at(0), ("ask", 0)), (KEEP, plus(at(9), (1, 100)), plus(at(8), (1, 100)), ("take", 3)), COURSE[5])
        self.assertTrue(is_run(LONE, late))
        self.assertIs(is_unsure_run(LONE, 0, (late, 7)), False)


class Calls(unittest.TestCase):
    def test_rules_for_every_function(self):
        three = ("plan", "run", "lock")
        for plan in (LONE, SEALED):
            check_call(self, world_of, ("plan",), (plan,))
            check_call(self, shut_keepers, ("plan",), (plan,))
            for run in (COURSE, COURSE[1:]):
                for call in (log_of, log_moments, looks):
                    check_call(self, call, three, (plan, run, 0))
                for call in (believed_by, surely_at):
                    check_call(self, call, three + ("place",), (plan, run, 0, 7))
            for keeper in (0, 1):
                check_call(self, unsure_run, ("plan", "keeper"), (plan, keeper))
                check_call(self, is_unsure_run, ("plan", "keeper", "thing"), (plan, keeper, (COURSE, 7)), things=(2,))
        check_call(self, believed_by, three + ("place",), (LONE, COURSE, 0, 5))
        check_call(self, shut_keepers, ("plan",), (SURE,))

    def test_at_the_bounds(self):
        draw = random.Random(235)
        plan = a_plan(draw, keepers=5, faults=(), sealed=False, stores=((True, True),) * 3)
        run = a_run(draw, plan, 160, clients=6, locks=3)
        self.assertGreater(len(run), 70)
        log = log_of(plan, run, 0)
        self.assertTrue(is_log(world_of(plan), log))
        for place in looks(plan, run, 0):
            surely_at(plan, run, 0, place)


if __name__ == "__main__":
    unittest.main()
