"""[12]: EVENTS, RUNS and class Machine."""

import copy
import random
import unittest

from plainlock.clients import Library
from plainlock.errors import Broken, Unfit
from plainlock.fractions import plus, times
from plainlock.keepers import Keeper
from plainlock.plans import changed
from plainlock.runs import Machine, first_broken, is_events, is_run, merged, sent, telling
from plainlock.stores import Store
from tests.drawing import a_fraction, a_plan, a_run
from tests.helping import LONE, ONE, SLOPE, at, bent, check_call, listed

ME, THEM, KEEP, SHOP = ("client", 0), ("client", 1), ("keeper", 0), ("store", 0, 0)
TWO_STORES = LONE[:5] + (LONE[5] * 2,) + LONE[6:]
# The RUN of the document's example.
RUN = ((ME, (0, 1), (5, 1), ("ask", 0)), (KEEP, (1, 1), (0, 1), ("take", 0)), (ME, (2, 1), (7, 1), ("take", 1)),
       (ME, (3, 1), (8, 1), ("deed", 0, 0, ("put", 4))), (ME, (3, 1), (8, 1), ("send",)), (SHOP, (4, 1), None, ("take", 4)))
# A CHANGE's PLANS: in the new one two keepers are asked, and it is believed for longer.
OLD = (((0,),), LONE[1] * 2) + LONE[2:]
NEW = changed(changed(OLD, ("lots",), ((0, 1),)), ("term",), (12, 1))
PAIR = (OLD, NEW)


def event(house, moment, act, reading=None):
    """An EVENT whose reading is the moment, unless it is told."""
    reading = moment if reading is None else reading
    return (house, at(moment), None if house[0] == "store" else at(reading), act)


def granted(client=ME, moment=0, first=0):
    """A client asks and is told: three EVENTS, the first of this number."""
    return (event(client, moment, ("ask", 0)), event(KEEP, moment + 1, ("take", first)), event(client, moment + 2, ("take", first + 1)))


class Forms(unittest.TestCase):
    def check(self, wanted, *events, plan=TWO_STORES):
        for some in events:
            self.assertIs(is_events(plan, (some,)), wanted, some)

    def test_ordinary(self):
        self.assertTrue(is_events(LONE, ()))
        self.assertTrue(is_events(LONE, RUN))
        for act in (("ask", 3), ("again", 0), ("anew", 0), ("not now", 0), ("release", 0), ("look", 0), ("deed", 5, 1, ("get",)),
                    ("deed", 0, 0, ("put", -7)), ("send",), ("take", 0), ("take", 900), ("start",)):
            self.check(True, (("client", 77), (-1, 3), (1, 2), act))
        for act in (("take", 0), ("fall",), ("switch",)):
            self.check(True, (KEEP, (0, 1), (0, 1), act))
        for act in (("take", 0), ("fall",)):
            self.check(True, (("store", 9, 1), (0, 1), None, act))

    def test_acts_of_another_house(self):
        for act in (("fall",), ("switch",)):
            self.check(False, (ME, (0, 1), (0, 1), act))
        for act in (("ask", 0), ("send",), ("start",), ("look", 0)):
            self.check(False, (KEEP, (0, 1), (0, 1), act), (SHOP, (0, 1), None, act))
        self.check(False, (SHOP, (0, 1), None, ("switch",)))

    def test_houses(self):
        for house in (("client", -1), ("client", True), ("client",), ("client", 0, 0), ("keeper", 1), ("keeper", -1), ("keeper", None),
                      ("store", 0, 2), ("store", -1, 0), ("store", 0), ("store", 0, False), ("shop", 0), (), 0, "client", None,
                      ["client", 0]):
            self.check(False, (house, (0, 1), (0, 1), ("take", 0)), (house, (0, 1), None, ("take", 0)))

    def test_moments_and_readings(self):
        for wrong in ((2, 2), (1, 0), (1, -1), 1, None, (1,), [1, 1], (True, 1), ("1", 1)):
            self.check(False, (ME, wrong, (0, 1), ("ask", 0)))
            self.check(False, (KEEP, wrong, (0, 1), ("take", 0)), (SHOP, wrong, None, ("take", 0)))
            self.check(False, (ME, (0, 1), wrong, ("ask", 0)), (KEEP, (0, 1), wrong, ("take", 0)))
        self.check(False, (SHOP, (0, 1), (0, 1), ("take", 0)), (ME, (0, 1), None, ("ask", 0)))

    def test_acts(self):
        for act in (("ask",), ("ask", -1), ("ask", True), ("ask", 0, 0), ["ask", 0], ("take",), ("take", -1), ("take", None), ("take", True),
                    ("deed", 0, 0), ("deed", 0, 2, ("get",)), ("deed", -1, 0, ("get",)), ("deed", 0, 0, ("get", 1)),
                    ("deed", 0, 0, ("put",)), ("deed", 0, 0, ("put", None)), ("deed", 0, 0, ("put", True)), ("deed", 0, 0, "get"),
                    ("deed", 0, 0, ["get"]), ("deed", 0, 0, ("put", 1, 1)), ("send", 0), ("start", 0), ("told", 0), (), "ask", None, 0,
                    (0, 0), (None,), ((), 0)):
            self.check(False, (ME, (0, 1), (0, 1), act))
        for act in (("fall", 0), ("switch", 0), ("take",), (), None, ["fall"]):
            self.check(False, (KEEP, (0, 1), (0, 1), act), (SHOP, (0, 1), None, act))

    def test_other_things(self):
        good = RUN[0]
        for thing in (None, 0, "", [], [good], (good[:3],), (good + (0,),), (list(good),), (None,), ((),), (good, 0), {}):
            if thing != {}:
                self.assertIs(is_events(LONE, thing), False, thing)
                self.assertIs(is_run(LONE, thing), False, thing)

    def test_of_a_pair(self):
        self.assertTrue(is_events(PAIR, (event(("keeper", 1), 0, ("switch",)), event(ME, 0, ("start",)))))
        self.check(False, event(("keeper", 2), 0, ("fall",)), event(("store", 0, 1), 0, ("fall",)), plan=PAIR)

    def test_rules_for_calls(self):
        check_call(self, is_events, ("plan", "thing"), (LONE, RUN), things=(1,))
        check_call(self, is_run, ("plan", "thing"), (LONE, RUN), things=(1,))
        check_call(self, is_run, ("plan", "thing"), (PAIR, (event(ME, 0, ("start",)),)), things=(1,))
        self.assertIs(is_run(LONE, RUN), True)
        self.assertIs(is_run(LONE, RUN[1:]), False)
        self.assertIs(is_events(LONE, RUN[1:]), True)


class Words(unittest.TestCase):
    """Each word by itself, at its very edge."""

    def check(self, wanted, *events, plan=LONE):
        self.assertTrue(is_events(plan, events))
        self.assertEqual(first_broken(plan, events), wanted and (len(events) - 1, wanted))
        self.assertIs(is_run(plan, events), wanted is None)

    def test_order(self):
        for moment, wanted in (((1, 2), None), ((3, 8), "order"), ((5, 8), None)):
            self.check(wanted, (ME, (1, 2), (0, 1), ("ask", 0)), (THEM, moment, (0, 1), ("ask", 0)))
        self.check("order", event(ME, 1, ("ask", 0)), (SHOP, (1, 2), None, ("fall",)))
        self.check(None, event(ME, 1, ("ask", 0)), (SHOP, (1, 1), None, ("fall",)))

    def test_clock(self):
        plan = changed(changed(changed(LONE, ("slow", "client"), (1, 2)), ("fast", "client"), (3, 2)), ("fast", "keeper"), (2, 1))
        for reading, wanted in ((at(6), None), ((23, 4), "clock"), ((7, 1), None), (at(8), None), ((33, 4), "clock")):
            self.check(wanted, event(ME, 0, ("ask", 0), 5), event(THEM, 1, ("ask", 0), 50), (ME, at(2), reading, ("look", 0)), plan=plan)
        for reading, wanted in ((at(7), None), ((27, 4), "clock"), (at(9), None), ((37, 4), "clock")):
            self.check(wanted, event(KEEP, 0, ("fall",), 5), (KEEP, at(2), reading, ("fall",)), plan=plan)

    def test_clock_at_one_moment(self):
        self.check("clock", event(ME, 0, ("ask", 0), 5), (ME, (0, 1), (51, 10), ("look", 0)))
        self.check("clock", event(KEEP, 0, ("fall",), 5), event(KEEP, 0, ("fall",), 4))
        self.check(None, event(KEEP, 0, ("fall",), 5), event(KEEP, 0, ("fall",), 5))

    def test_clock_goes_from_the_last_event_of_the_house(self):
        self.check(None, event(ME, 0, ("ask", 0), -9), event(KEEP, 0, ("fall",), 3), event(THEM, 4, ("ask", 0), 1), event(ME, 5, ("look", 0), -4))

    def test_letter(self):
        ask = event(ME, 0, ("ask", 0))
        self.check("letter", event(KEEP, 1, ("take", 0)))
        self.check("letter", ask, event(KEEP, 1, ("take", 1)))
        self.check("letter", ask, event(KEEP, 1, ("take", 7)))
        self.check("letter", ask, (SHOP, at(1), None, ("take", 0)))
        self.check("letter", ask, event(THEM, 1, ("take", 0)))
        self.check("letter", ask, event(ME, 1, ("take", 0)))
        self.check("letter", ask, event(KEEP, 0, ("fall",)), event(KEEP, 1, ("take", 1)))
        self.check(None, ask, event(KEEP, 1, ("take", 0)))

    def test_a_letter_of_another_house(self):
        plan = TWO_STORES[:1] + (LONE[1] * 2,) + TWO_STORES[2:]
        self.check("letter", *RUN[:5], (("store", 0, 1), at(4), None, ("take", 4)), plan=plan)
        self.check("letter", *RUN[:5], (("store", 1, 0), at(4), None, ("take", 4)), plan=plan)
        self.check("letter", *RUN[:2], event(THEM, 2, ("take", 1)), plan=plan)
        self.check(None, *RUN[:1], event(("keeper", 1), 1, ("take", 0)), plan=plan)

    def test_a_third_taking(self):
        ask = event(ME, 0, ("ask", 0))
        take = event(KEEP, 2, ("take", 0))
        self.check(None, ask, take, take)
        self.check("letter", ask, take, take, take)
        self.check("letter", ask, take, take, event(KEEP, 9, ("take", 0)))
        plan = LONE[:1] + (LONE[1] * 2,) + LONE[2:]
        other = event(("keeper", 1), 2, ("take", 0))
        self.check(None, ask, take, other, take, other, plan=plan)
        self.check("letter", ask, take, other, take, other, other, plan=plan)

    def test_legs(self):
        """Least and most of each LEG, in the example's PLAN made wider."""
        legs = (((1, 1), (2, 1)), ((2, 1), (4, 1)), ((3, 1), (6, 1)), ((4, 1), (5, 1)))
        plan = LONE[:3] + (legs,) + (((30, 1),) + LONE[4][1:],) + LONE[5:]
        run = [event(ME, 0, ("ask", 0)), event(KEEP, 1, ("take", 0)), event(ME, 3, ("take", 1)), event(ME, 3, ("deed", 0, 0, ("get",))),
               event(ME, 3, ("send",)), (SHOP, at(6), None, ("take", 4)), event(ME, 10, ("take", 5))]
        for place, least, most in ((1, 1, 2), (2, 2, 4), (5, 3, 6), (6, 4, 5)):
            start = run[run[place][3][1]][1]
            for delay, wanted in ((at(least), None), (at(most), None), ((16 * least - 1, 16), "leg"), ((16 * most + 1, 16), "leg")):
                moment = plus(start, delay)
                house, _, reading, act = run[place]
                bad = (house, moment, None if reading is None else moment, act)
                ahead = [some for some in run[:place] if some[1] <= moment]
                self.check(wanted, *ahead, bad, plan=plan)

    def test_a_leg_without_a_most(self):
        run = RUN + (event(ME, 5, ("look", 0), 10),)
        self.check(None, *run, event(ME, 1000, ("take", 5), 1005))
        self.check("leg", *RUN, (ME, (9, 2), (19, 2), ("take", 5)))

    def test_release_seal_and_refusal_have_the_legs_too(self):
        run = granted() + (event(ME, 2, ("release", 0)),)
        self.check("leg", *run, event(KEEP, 5, ("take", 3)))
        self.check(None, *run, event(KEEP, 4, ("take", 3)))
        run = (event(ME, 0, ("ask", 0)), event(THEM, 0, ("ask", 0)), event(KEEP, 1, ("take", 0)), event(KEEP, 1, ("take", 1)))
        self.check("leg", *run, event(THEM, 4, ("take", 3)))
        self.check(None, *run, event(THEM, 3, ("take", 3)))
        plan = changed(LONE, ("sealed",), True)
        self.check(None, *granted(), (SHOP, at(5), None, ("take", 2)), plan=plan)
        self.check("leg", *granted(), (SHOP, at(6), None, ("take", 2)), plan=plan)

    def test_act(self):
        self.check("act", event(ME, 0, ("send",)))
        self.check("act", event(ME, 0, ("again", 0)))
        self.check("act", *granted(), event(ME, 3, ("ask", 0)))
        self.check("act", *granted(), event(ME, 3, ("not now", 0)))
        self.check(None, *granted(), event(ME, 3, ("release", 0)))
        deed = RUN[:4]
        for act in (("look", 0), ("ask", 1), ("take", 1), ("deed", 0, 0, ("get",))):
            self.check("act", *deed, event(ME, 3, act, 8))
        self.check(None, *deed, event(KEEP, 3, ("fall",), 2))

    def test_turns_of_one_plan(self):
        self.check("act", event(ME, 0, ("start",)))
        self.check("act", event(ME, 0, ("ask", 0)), event(ME, 0, ("start",)))
        self.check("act", event(KEEP, 0, ("switch",)))

    def test_turns_of_a_pair(self):
        start, switch = event(ME, 0, ("start",)), event(KEEP, 0, ("switch",))
        self.check(None, start, switch, event(THEM, 0, ("start",)), event(("keeper", 1), 0, ("switch",)), plan=PAIR)
        self.check("act", start, start, plan=PAIR)
        self.check("act", event(ME, 0, ("look", 0)), start, plan=PAIR)
        self.check("act", switch, event(KEEP, 0, ("fall",)), switch, plan=PAIR)

    def test_stop(self):
        plan = changed(LONE, ("stop",), (3, 2))
        for moment, wanted in ((at(3), None), ((9, 2), None), ((37, 8), "stop")):
            reading = plus(moment, at(5))
            self.check(wanted, *RUN[:4], (ME, moment, reading, ("send",)), plan=plan)
        self.check("stop", *RUN[:4], (ME, (25, 8), (65, 8), ("send",)))
        self.check(None, *RUN[:4], event(ME, 999, ("send",), 1004), plan=changed(LONE, ("stop",), None))

    def test_stop_of_a_pair_is_that_of_the_client(self):
        new = changed(changed(OLD, ("stop",), at(2)), ("term",), at(11))
        def run(late, *start):
            many = len(start)
            return start + granted(first=many) + (event(ME, 3, ("deed", 0, 0, ("get",))), event(ME, late, ("send",)))
        self.check(None, *run(3), plan=(OLD, new))
        self.check("stop", *run(4), plan=(OLD, new))
        self.check(None, *run(5, event(ME, 0, ("start",))), plan=(OLD, new))
        self.check("stop", *run(6, event(ME, 0, ("start",))), plan=(OLD, new))


class FirstWord(unittest.TestCase):
    """Where several words fit the first of them is told, and the first EVENT."""

    def check(self, word, events, plan=LONE):
        self.assertEqual(first_broken(plan, events), (len(events) - 1, word))

    def test_all_of_them(self):
        deed = RUN[:4]
        # too early, and by a wrong reading, and of no letter
        self.check("order", deed + (event(ME, 2, ("take", 9), 99),))
        self.check("clock", deed + (event(ME, 4, ("take", 9), 99),))
        # no such letter, and a deed that is to be sent
        self.check("letter", deed + (event(ME, 4, ("take", 9), 9),))
        # too late a letter, and a deed that is to be sent
        self.check("leg", deed + (event(ME, 9, ("take", 1), 14),))
        self.check("act", deed + (event(ME, 3, ("take", 1), 8),))
        self.check("clock", deed + (event(ME, 4, ("send",), 8),))
        self.check("order", deed + (event(ME, 2, ("send",), 8),))
        self.check("stop", deed + (event(ME, 4, ("send",), 9),))
        self.check("act", RUN[:3] + (event(ME, 9, ("send",), 14),))
        self.check("letter", (event(ME, 0, ("ask", 0)),) + (event(KEEP, 2, ("take", 0)),) * 2 + (event(KEEP, 9, ("take", 0)),))
        self.check("clock", (event(ME, 0, ("look", 0)), event(ME, 1, ("start",), 5)))

    def test_the_first_event(self):
        events = RUN[:2] + (event(ME, 9, ("take", 1), 14), event(ME, 2, ("send",), 9))
        self.assertEqual(first_broken(LONE, events), (2, "leg"))
        self.assertEqual(first_broken(LONE, ()), None)
        check_call(self, first_broken, ("plan", "events"), (LONE, events))
        check_call(self, first_broken, ("plan", "events"), (LONE, RUN))
        check_call(self, first_broken, ("plan", "events"), (PAIR, events))


class Told(unittest.TestCase):
    def test_sent(self):
        grant, deed = ("grant", 0, (1, 0), 1), ("deed", 0, 0, (1, 0), 2, ("put", 4))
        self.assertEqual(sent(LONE, RUN), (
            ((KEEP, ("ask", 0, (1, 0), 1)),), ((ME, grant),), (), (), ((SHOP, deed),), ((ME, ("done", 0, 0, 2, 0)),)))

    def test_houses_ascend(self):
        plan = changed(TWO_STORES, ("sealed",), True)
        self.assertEqual([house for house, _ in sent(plan, granted())[2]], [("store", 0, 0), ("store", 0, 1)])
        plan = changed(LONE[:1] + (LONE[1] * 3,) + LONE[2:], ("lots",), ((2,),))
        self.assertEqual([house for house, _ in sent(plan, granted()[:1])[0]], [("keeper", k) for k in range(3)])

    def test_who_is_answered(self):
        run = (event(("client", 5), 0, ("ask", 3)), event(("client", 6), 0, ("ask", 3)), event(KEEP, 1, ("take", 1)), event(KEEP, 1, ("take", 0)))
        self.assertEqual(sent(LONE, run)[2:], (((("client", 6), ("grant", 3, (1, 6), 1)),), ((("client", 5), ("refused", 3, (1, 6))),)))

    def test_telling(self):
        self.assertEqual(telling(LONE, ()), ())
        self.assertEqual(telling(PAIR, (event(ME, 0, ("start",)),)), ())
        self.assertEqual(telling(LONE, RUN[:1] + (event(THEM, 0, ("look", 3)),)), ((ME, (("ask", 0),)), (THEM, (("look", 3, False),))))
        rows = dict(telling(LONE, RUN))
        self.assertEqual(rows[SHOP], (((1, 0), 2, ("put", 4), 0),))
        # a taken answer is told; a stale deed and a second taking are no entries of the store's ROW
        run = RUN + (RUN[5], event(ME, 5, ("take", 5), 10))
        rows = dict(telling(LONE, run))
        self.assertEqual(rows[SHOP], (((1, 0), 2, ("put", 4), 0),))
        self.assertEqual(rows[ME][-1], ("done", 0, 0, 2, 0))
        self.assertEqual(sent(LONE, run)[6], ())

    def test_falls_of_stores(self):
        """One that does not keep does a deed again behind a fall, and a twin that has not fallen does not."""
        plan = changed(LONE, ("keeps", 0), False)
        run = RUN + ((SHOP, at(4), None, ("fall",)), (SHOP, at(5), None, ("take", 4)))
        self.assertEqual(dict(telling(plan, run))[SHOP], (((1, 0), 2, ("put", 4), 0), ((1, 0), 2, ("put", 4), 4)))
        self.assertEqual(dict(telling(LONE, run))[SHOP], (((1, 0), 2, ("put", 4), 0),))
        other = (("store", 0, 1), at(4), None, ("fall",))
        wide = plan[:5] + (plan[5] * 2,) + plan[6:]
        self.assertEqual(len(dict(telling(wide, RUN + (other, run[-1])))[SHOP]), 1)

    def test_unfit(self):
        for run in (RUN[1:], RUN + (event(ME, 4, ("send",), 9),), (event(KEEP, 0, ("switch",)),)):
            self.assertRaises(Unfit, sent, LONE, run)
            self.assertRaises(Unfit, telling, LONE, run)
        self.assertEqual(sent(PAIR, (event(KEEP, 0, ("switch",)),)), ((),))

    def test_rules_for_calls(self):
        for call in (sent, telling):
            for run in (RUN, RUN[1:]):
                check_call(self, call, ("plan", "run"), (LONE, run))
                check_call(self, call, ("plan", "run"), (PAIR, run))


class Merged(unittest.TestCase):
    def test_by_moments(self):
        other = tuple((("client", 3) if house == ME else house, plus(moment, (1, 2)), reading, bent(act, (1,), 1) if act[0] == "ask" else act)
                      for house, moment, reading, act in RUN[:3])
        self.assertEqual([some[3] for some in merged(RUN[:3], other)], [
            ("ask", 0), ("ask", 1), ("take", 0), ("take", 1), ("take", 2), ("take", 3)])

    def test_equal_moments(self):
        one = (event(ME, 1, ("ask", 0)), event(ME, 1, ("again", 0)), event(KEEP, 2, ("take", 1)))
        two = (event(THEM, 0, ("look", 4)), event(THEM, 1, ("ask", 4)), event(KEEP, 2, ("take", 1)), event(KEEP, 2, ("take", 1)))
        both = merged(one, two)
        self.assertEqual(both, (two[0], one[0], one[1], two[1], event(KEEP, 2, ("take", 2)), event(KEEP, 2, ("take", 3)), event(KEEP, 2, ("take", 3))))
        both = merged(two, one)
        self.assertEqual(both, (two[0], two[1], one[0], one[1], event(KEEP, 2, ("take", 1)), event(KEEP, 2, ("take", 1)), event(KEEP, 2, ("take", 3))))

    def test_of_nothing(self):
        self.assertEqual(merged((), ()), ())
        self.assertEqual(merged(RUN, ()), RUN)
        self.assertEqual(merged((), RUN), RUN)

    def test_rules_for_calls(self):
        check_call(self, merged, ("run", "other"), (RUN, RUN[:3]))


class Machines(unittest.TestCase):
    def stand(self, machine):
        return (machine.run(), [machine.row(house) for house in (ME, THEM, SHOP, KEEP)], machine.record(0, 0), machine.record(0, 5))

    def test_at_first(self):
        self.assertEqual(self.stand(Machine(LONE)), ((), [()] * 4, (None,) * 4, (None,) * 4))

    def test_step_by_step(self):
        machine = Machine(LONE)
        for k, some in enumerate(RUN):
            self.assertIsNone(machine.play(some))
            self.assertEqual(machine.run(), RUN[:k + 1])
            rows = dict(telling(LONE, RUN[:k + 1]))
            self.assertEqual([machine.row(house) for house in (ME, SHOP)], [rows.get(ME, ()), rows.get(SHOP, ())])
        self.assertEqual(machine.record(0, 0), ((1, 0), (1, 0), (8, 1), None))
        self.assertEqual(machine.record(keeper=0, lock=1), (None,) * 4)

    def test_broken_changes_nothing(self):
        machine = Machine(PAIR)
        wrong = [("order", event(ME, -1, ("look", 0))), ("clock", event(ME, 9, ("look", 0), 5)), ("letter", event(KEEP, 9, ("take", 9))),
                 ("letter", event(ME, 9, ("take", 0))), ("act", event(KEEP, 9, ("switch",))), ("act", event(ME, 9, ("start",))),
                 ("act", event(ME, 9, ("send",))), ("act", event(THEM, 9, ("send",))), ("act", event(ME, 9, ("anew", 0)))]
        played = [event(ME, 0, ("start",)), event(KEEP, 0, ("switch",)), event(ME, 0, ("ask", 0)), event(KEEP, 1, ("take", 2)),
                  event(("keeper", 1), 1, ("take", 2)), event(ME, 2, ("take", 3)), event(ME, 2, ("take", 4))]
        for some in played:
            machine.play(some)
        before = self.stand(machine)
        for word, some in wrong:
            with self.assertRaises(Broken) as caught:
                machine.play(some)
            self.assertEqual(caught.exception.word, word)
            self.assertEqual(self.stand(machine), before)
        machine.play(event(ME, 3, ("deed", 0, 0, ("get",))))
        before = self.stand(machine)
        for word, some in (("stop", event(ME, 4, ("send",))), ("act", event(ME, 3, ("look", 0)))):
            self.assertRaises(Broken, machine.play, some)
            self.assertEqual(self.stand(machine), before)
        machine.play(event(ME, 3, ("send",)))
        machine.play((SHOP, at(4), None, ("take", 8)))
        self.assertEqual(machine.row(SHOP), (((1, 0), 2, ("get",), 0),))

    def test_a_broken_first_event_leaves_a_new_house(self):
        machine = Machine(PAIR)
        self.assertRaises(Broken, machine.play, event(ME, 0, ("send",), 7))
        machine.play(event(ME, 0, ("start",), 3))
        self.assertRaises(Broken, machine.play, event(KEEP, 0, ("take", 0), 9))
        machine.play(event(KEEP, 0, ("fall",), 0))
        self.assertEqual(len(machine.run()), 2)

    def test_a_twin_half_way(self):
        machine = Machine(LONE)
        for some in RUN[:3]:
            machine.play(some)
        other = machine.twin()
        for some in RUN[3:]:
            other.play(some)
        self.assertEqual((machine.run(), other.run()), (RUN[:3], RUN))
        self.assertEqual((machine.row(ME), other.row(SHOP)), ((("ask", 0), ("told", 0, (1, 0))), (((1, 0), 2, ("put", 4), 0),)))
        machine.play(event(ME, 3, ("release", 0), 8))
        machine.play(event(KEEP, 4, ("take", 3), 3))
        self.assertEqual((machine.record(0, 0), other.record(0, 0)), (((1, 0), None, None, None), ((1, 0), (1, 0), (8, 1), None)))
        other.play(event(ME, 5, ("take", 5), 10))
        self.assertEqual(other.row(ME)[-1], ("done", 0, 0, 2, 0))
        # takings, falls and turns are counted in each by itself
        one = Machine(PAIR)
        one.play(event(KEEP, 0, ("fall",)))
        two = one.twin()
        two.play(event(KEEP, 0, ("switch",)))
        one.play(event(KEEP, 0, ("switch",)))
        self.assertRaises(Broken, two.twin().play, event(KEEP, 0, ("switch",)))

    def test_what_is_given_is_copied(self):
        plan, some = listed(LONE), listed(RUN[0])
        machine = Machine(plan=plan)
        machine.play(event=some)
        some[3][0] = "look"
        plan[3][0][0] = [9, 1]
        self.assertEqual(machine.run(), RUN[:1])
        machine.play(RUN[1])
        self.assertEqual(machine.row(house=["client", 0]), (("ask", 0),))


class Pairs(unittest.TestCase):
    """A pair (old, new): clients by what they began with, keepers by what they turned to."""

    def test_clients(self):
        asks = (event(ME, 0, ("ask", 0)), event(KEEP, 1, ("take", 0)), event(ME, 2, ("take", 1)))
        self.assertEqual(dict(telling(PAIR, asks))[ME], (("ask", 0), ("told", 0, (1, 0))))
        asks = (event(ME, 0, ("start",)), event(ME, 0, ("ask", 0)), event(KEEP, 1, ("take", 1)), event(ME, 2, ("take", 2)))
        self.assertEqual(dict(telling(PAIR, asks))[ME], (("ask", 0),))
        both = asks[:3] + (event(("keeper", 1), 1, ("take", 1)), event(ME, 2, ("take", 2)), event(ME, 2, ("take", 3)), event(ME, 12, ("look", 0)))
        self.assertEqual(dict(telling(PAIR, both))[ME], (("ask", 0), ("told", 0, (1, 0)), ("look", 0, True)))
        self.assertEqual(sent(PAIR, asks)[0], ())

    def test_keepers(self):
        new = changed(OLD, ("length", 0), (3, 1))
        run = (event(ME, 0, ("ask", 0)), event(KEEP, 1, ("take", 0)), event(KEEP, 1, ("switch",)), event(ME, 1, ("again", 0)),
               event(KEEP, 2, ("take", 3)), event(THEM, 4, ("ask", 0)), event(KEEP, 5, ("take", 5)))
        machine = Machine((OLD, new))
        for some in run[:2]:
            machine.play(some)
        self.assertEqual(machine.record(0, 0)[2], at(9))
        for some in run[2:]:
            machine.play(some)
        self.assertEqual(machine.record(0, 0), ((1, 1), (1, 1), at(8), None))
        self.assertEqual(sent((OLD, new), run)[6], ((THEM, ("grant", 0, (1, 1), 1)),))
        without = tuple(bent(some, (3,), ("fall",)) if some[3] == ("switch",) else some for some in run)
        self.assertEqual(sent((OLD, new), without)[6], ((THEM, ("refused", 0, (1, 0))),))


class Drawn(unittest.TestCase):
    """The guarantees, over RUNS that are drawn; and the RUNS played once more by their houses alone."""

    def runs(self, seed, many):
        draw = random.Random(seed)
        for k in range(many):
            plan = a_plan(draw)
            yield draw, plan, a_run(draw, plan, 40, 2, draw.choice((1, 1, 2)))

    def test_first_events(self):
        for draw, plan, run in self.runs(1, 60):
            self.assertTrue(is_run(plan, run))
            whole = sent(plan, run)
            for many in {0, 1, len(run) // 2, draw.randint(0, len(run))}:
                self.assertTrue(is_run(plan, run[:many]))
                self.assertEqual(sent(plan, run[:many]), whole[:many])

    def test_readings_of_one_house_all_greater(self):
        for draw, plan, run in self.runs(2, 60):
            if run:
                house, by = draw.choice(run)[0], a_fraction(draw, -20, 20)
                other = tuple((some[0], some[1], plus(some[2], by), some[3]) if some[0] == house and some[2] else some for some in run)
                self.assertEqual(telling(plan, other), telling(plan, run))

    def test_merged(self):
        draw = random.Random(3)
        many = 0
        for _ in range(120):
            plan = a_plan(draw, stop=(0, 1))
            runs = [strict(draw, plan, clients, lock) for clients, lock in (((0, 1), 0), ((2, 3), 1))]
            if None not in runs:
                both = merged(*runs)
                self.assertTrue(is_run(plan, both))
                self.assertEqual(telling(plan, both), tuple(sorted(telling(plan, runs[0]) + telling(plan, runs[1]))))
                many += 1
            one = strict(draw, plan, (0, 1), 1)
            if None not in (runs[0], one):
                self.assertTrue(is_run(plan, merged(runs[0], one)))
        self.assertGreater(many, 60)

    def test_beside_the_houses(self):
        for _, plan, run in self.runs(4, 120):
            houses, letters, rows = {}, [], {}
            for house, _, reading, act in run:
                if house not in houses:
                    kind = {"client": Library, "keeper": Keeper, "store": Store}[house[0]]
                    houses[house] = kind(plan, *house[1:])
                one = houses[house]
                gone, entries = (), ()
                if act == ("fall",):
                    one.fall(*((reading,) if house[0] == "keeper" else ()))
                elif act[0] != "take":
                    gone, entries = one.act(reading, act)
                else:
                    letter = dict(letters[act[1]])[house]
                    sender = run[act[1]][0]
                    if house[0] == "client":
                        gone, entries = one.take(reading, sender, letter)
                    elif house[0] == "keeper":
                        gone = tuple((sender, answer) for answer in one.take(reading, letter))
                    else:
                        answer, entry = one.take(letter)
                        gone, entries = ((sender, answer),) * (answer is not None), (entry,) * (entry is not None)
                letters.append(gone)
                rows[house] = rows.get(house, ()) + entries
            self.assertEqual(sent(plan, run), tuple(letters))
            self.assertEqual(telling(plan, run), tuple((house, rows[house]) for house in sorted(rows) if rows[house]))

    def test_of_pairs(self):
        draw = random.Random(5)
        words = set()
        for _ in range(60):
            old = a_plan(draw, 2, ((True, True),), (), sealed=False)
            other = a_plan(draw, 2, ((True, True),), (), sealed=False)
            pair = (old, (other[0], other[1], old[2], old[3], other[4], old[5], old[6]))
            run = a_run(draw, pair, 40)
            self.assertTrue(is_run(pair, run))
            words |= {some[3][0] for some in run}
            machine = Machine(pair)
            for some in run:
                machine = machine.twin()
                machine.play(some)
            self.assertEqual(machine.run(), run)
            self.assertEqual([machine.row(house) for house, _ in telling(pair, run)], [row for _, row in telling(pair, run)])
        self.assertLessEqual({"start", "switch", "take", "fall", "look"}, words)

    def test_long_runs(self):
        draw = random.Random(6)
        keepers = tuple(((8, 1), "all", ONE) for _ in range(5))
        plan = (((0, 1, 2), (1, 3), (2, 3, 4)), keepers, (SLOPE, SLOPE)) + LONE[3:5] + (((True, True),) * 3, ())
        run = a_run(draw, plan, 220, 6, 3)
        self.assertGreater(len(run), 80)
        before = copy.deepcopy(run)
        self.assertTrue(is_run(plan, run))
        telling(plan, run)
        self.assertEqual(run, before)


def strict(draw, plan, clients, lock):
    """A RUN of this lock as a merging asks for; None if it came to nothing."""
    run = a_run(draw, plan, 60, 2, 1)
    slow, fast = plan[2][0][0], plan[2][1][1]
    found, places = [], {}
    for number, (house, moment, reading, act) in enumerate(run):
        if act == ("fall",) or (act[0] == "take" and act[1] not in places):
            continue
        if house[0] == "client":
            house, reading = ("client", clients[house[1]]), times(slow, moment)
        elif house[0] == "keeper":
            reading = times(fast, moment)
        else:
            house = ("store", lock, house[2])
        if act[0] == "take":
            act = ("take", places[act[1]])
        elif act != ("send",):
            act = (act[0], lock) + act[2:]
        trial = tuple(found) + ((house, moment, reading, act),)
        if act == ("send",):
            continue
        if not is_run(plan, trial):
            continue
        places[number] = len(found)
        found = list(trial)
        if act[0] == "deed":
            trial = trial + ((house, moment, reading, ("send",)),)
            if is_run(plan, trial):
                # what the old ("send",) sent is now sent right behind the deed
                later = next((k for k in range(number, len(run)) if run[k][0] == run[number][0] and run[k][3] == ("send",)), None)
                places[later] = len(found)
                found = list(trial)
    return tuple(found) if is_run(plan, tuple(found)) else None


if __name__ == "__main__":
    unittest.main()
