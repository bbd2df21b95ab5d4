"""[19]: right PLANS, PROOFS and bad RUNS."""

import random
import unittest

from plainlock.borders import holds, right_where
from plainlock.errors import CanNot, Unfit
from plainlock.plain import knot, misfit
from plainlock.plans import can_hold, changed
from plainlock.right import bad_run, crossing, is_bad, is_proof, is_right, is_within, must_ask, proof, reasons
from plainlock.runs import Machine, is_run, merged, telling
from plainlock.ways import open_pairs, open_run, ways
from tests.drawing import a_plan, a_run
from tests.helping import LONE, ONE, at, bent, check_call, listed

ME, THEM, KEEP, SHOP = ("client", 0), ("client", 1), ("keeper", 0), ("store", 0, 0)
EAGER = changed(LONE, ("term",), (20, 1))
SURE = changed(LONE, ("length", 0), (17, 2))
NO_HOLD = changed(EAGER, ("term",), (3, 2))
FORGETFUL = changed(LONE, ("keeps", 0), False)
CASES = tuple((locks, language) for locks in (1, 2, 3) for language in ("looks", "deeds"))
# At the border of a pair of LOTS: a term of 8 is shut for "look" by an inch only if length is more than 6.
BORDER = changed(changed(LONE, ("term",), at(8)), ("length", 0), at(6))


def bad_again(plan, run):
    """Whether a RUN is bad, by the words of section 17."""
    told = telling(plan, run)
    if misfit(told) is not None:
        return True
    try:
        return bool(knot(told))
    except CanNot:
        return False


class Reasons(unittest.TestCase):
    def test_each_field(self):
        for name, value, one, two, deeds in (
                (("term",), at(20), (), ("look",), ("look",)), (("keeps", 0), False, ("keeps",), ("keeps", "look"), ("keeps", "look")),
                (("asks", 0), False, ("store",), ("look", "store"), ("look", "store")), (("sealed",), True, (), (), ()),
                (("length", 0), None, (), (), ()), (("faults",), ("forgets",), (), ("look",), ("look",)),
                (("record", 0), "number", (), ("look",), ("look",)), (("stop",), None, (), ("look",), ("look",)),
                (("releases",), "waits", (), ("look",), ("look",)), (("counts",), "taken", (), ("look",), ("look",))):
            plan = changed(LONE, name, value)
            self.assertEqual(reasons(plan, 1, "looks"), one, name)
            self.assertEqual(reasons(plan, 1, "deeds"), one, name)
            self.assertEqual(reasons(plan, 2, "looks"), two, name)
            self.assertEqual(reasons(plan, 3, "deeds"), deeds, name)

    def test_sealed_and_deeds(self):
        sealed = changed(EAGER, ("sealed",), True)
        self.assertEqual([reasons(sealed, *case) for case in CASES], [(), (), ("look",), (), ("look",), ()])
        # Sealed or not, a store that does not ask does as it likes.
        plan = changed(sealed, ("asks", 0), False)
        self.assertEqual([reasons(plan, *case) for case in CASES], [("store",), ("store",), ("look", "store"), ("store",)] + [
            ("look", "store"), ("store",)])

    def test_border_of_a_pair(self):
        for length, told in ((at(6), ("look",)), ((6001, 1000), ()), ((5999, 1000), ("look",))):
            self.assertEqual(reasons(changed(BORDER, ("length", 0), length), 2, "looks"), told)
        plan = changed(changed(BORDER, ("asks", 0), False), ("most", "deed"), at(2))
        for length, told in ((at(7), ("store",)), ((7001, 1000), ()), ((6999, 1000), ("store",))):
            self.assertEqual(reasons(changed(plan, ("length", 0), length), 1, "looks"), told)

    def test_no_hold(self):
        for name, value in ((("keeps", 0), False), (("asks", 0), False), (("term",), at(1))):
            plan = changed(NO_HOLD, name, value)
            self.assertFalse(can_hold(plan))
            for case in CASES:
                self.assertEqual(reasons(plan, *case), ())
                self.assertTrue(is_right(plan, *case))
                with self.assertRaises(CanNot):
                    proof(plan, *case)
                with self.assertRaises(CanNot):
                    bad_run(plan, *case)

    def test_one_lock_whose_stores_ask_and_keep(self):
        draw = random.Random(190)
        for _ in range(60):
            plan = a_plan(draw, stores=((True, True), (True, True)))
            self.assertTrue(is_right(plan, 1, "looks"))
            self.assertTrue(is_right(plan, 1, "deeds"))

    def test_beside_the_pairs_and_the_border(self):
        draw = random.Random(191)
        for _ in range(60):
            plan = a_plan(draw)
            for locks, language in CASES:
                wanted = set()
                if not all(keeps for _, keeps in plan[5]):
                    wanted.add("keeps")
                if open_pairs(plan, "store") and not all(asks for asks, _ in plan[5]):
                    wanted.add("store")
                if open_pairs(plan, "look") and locks > 1 and (language == "looks" or not plan[4][4]):
                    wanted.add("look")
                if not can_hold(plan):
                    wanted = set()
                told = reasons(plan, locks, language)
                self.assertEqual(told, tuple(sorted(wanted)))
                self.assertIs(is_right(plan, locks, language), not wanted)
                self.assertIs(holds(right_where(0, (plan, ()), locks, language), ()), not wanted)

    def test_must_ask(self):
        two = changed(SURE, ("sealed",), False)[:5] + (((True, True), (False, True)), ())
        self.assertEqual(must_ask(two), (0, 1))
        self.assertEqual(must_ask(changed(changed(two, ("length", 0), at(20)), ("most", "deed"), at(2))), ())
        self.assertEqual(must_ask(NO_HOLD), ())
        for plan in (FORGETFUL, changed(NO_HOLD, ("keeps", 0), False)):
            with self.assertRaises(CanNot):
                must_ask(plan)
        draw = random.Random(192)
        for _ in range(40):
            plan = a_plan(draw, stores=((draw.random() < 0.5, True), (True, True)))
            told = must_ask(plan)
            self.assertEqual(told, (0, 1) if open_pairs(plan, "store") else ())
            for asks in ((False, False), (False, True), (True, True)):
                other = plan[:5] + (tuple((one, True) for one in asks),) + plan[6:]
                self.assertIs(is_right(other, 1, "looks"), told == () or all(asks))


class Within(unittest.TestCase):
    def test_by_events(self):
        for event, locks, language, told in (
                ((ME, ONE, ONE, ("ask", 0)), 1, "deeds", True), ((ME, ONE, ONE, ("ask", 1)), 1, "looks", False),
                ((ME, ONE, ONE, ("ask", 1)), 2, "looks", True), ((ME, ONE, ONE, ("look", 0)), 1, "looks", True),
                ((ME, ONE, ONE, ("look", 0)), 1, "deeds", False), ((ME, ONE, ONE, ("deed", 0, 3, ("get",))), 1, "deeds", True),
                ((ME, ONE, ONE, ("deed", 1, 0, ("get",))), 1, "deeds", False), ((ME, ONE, ONE, ("take", 7)), 1, "deeds", True),
                ((ME, ONE, ONE, ("send",)), 1, "deeds", True), ((KEEP, ONE, ONE, ("fall",)), 1, "deeds", True),
                ((("store", 1, 0), ONE, None, ("fall",)), 1, "looks", False), ((("store", 0, 2), ONE, None, ("fall",)), 1, "looks", True),
                ((("keeper", 4), ONE, ONE, ("take", 5)), 1, "looks", True), ((("client", 9), ONE, ONE, ("not now", 2)), 2, "looks", False),
                ((("client", 9), ONE, ONE, ("again", 2)), 3, "looks", True), ((ME, ONE, ONE, ("anew", 3)), 3, "looks", False),
                ((ME, ONE, ONE, ("release", 1)), 1, "looks", False)):
            self.assertIs(is_within((event,), locks, language), told, event)
            self.assertIs(is_within(((ME, ONE, ONE, ("ask", 0)), event), locks, language), told, event)
        self.assertTrue(is_within((), 1, "deeds"))

    def test_bad_as_the_words_have_it(self):
        draw = random.Random(193)
        found = {True: 0, False: 0}
        for k in range(60):
            plan = a_plan(draw)
            run = a_run(draw, plan, 45, clients=2, locks=1 + k % 2)
            self.assertIs(is_bad(plan, run), bad_again(plan, run))
            found[is_bad(plan, run)] += 1
        self.assertGreater(found[False], 30)

    def test_no_run(self):
        for run in (((ME, ONE, ONE, ("look", 0)), (ME, at(0), ONE, ("ask", 0))), ((ME, ONE, ONE, ("release", 0)),), ((ME, ONE, ONE),), 5,
                    ((KEEP, ONE, ONE, ("switch",)),)):
            with self.assertRaises(Unfit):
                is_bad(LONE, run)


class Proofs(unittest.TestCase):
    def test_drawn(self):
        draw = random.Random(194)
        found = 0
        for _ in range(120):
            plan = a_plan(draw, stores=((draw.random() < 0.5, True),), faults=())
            for locks, language in ((1, "looks"), (2, "looks"), (2, "deeds")):
                if not is_right(plan, locks, language) or not can_hold(plan):
                    continue
                told = proof(plan, locks, language)
                self.assertTrue(is_proof(plan, locks, language, told))
                must = [goal for goal, needed in (("look", locks > 1 and (language == "looks" or not plan[4][4])),
                                                  ("store", not plan[5][0][0])) if needed]
                self.assertEqual(sorted({goal for _, goal, _ in told}), must)
                found += bool(told)
                self.assertTrue(is_proof(plan, locks, language, tuple(reversed(told)) + told[:1]))
        self.assertGreater(found, 15)

    def test_nothing_to_shut(self):
        self.assertEqual(proof(EAGER, 1, "looks"), ())
        self.assertEqual(proof(changed(EAGER, ("sealed",), True), 4, "deeds"), ())
        self.assertTrue(is_proof(EAGER, 1, "looks", ()))
        self.assertFalse(is_proof(EAGER, 2, "looks", ()))
        # A SUM that is not needed may stand there, too.
        self.assertTrue(is_proof(SURE, 1, "looks", proof(SURE, 2, "looks")))
        self.assertFalse(is_proof(FORGETFUL, 1, "looks", ()))

    def test_none(self):
        for plan, locks, language in ((EAGER, 2, "looks"), (FORGETFUL, 1, "looks"), (changed(LONE, ("asks", 0), False), 1, "deeds")):
            with self.assertRaises(CanNot):
                proof(plan, locks, language)

    def test_bent(self):
        told = proof(SURE, 2, "looks")
        (way, goal, weights), other = told
        self.assertEqual(way[3], "lapse")

        def judge(thing):
            return is_proof(SURE, 2, "looks", thing)

        self.assertTrue(judge(told))
        self.assertTrue(judge((other, told[0])))
        some = next(k for k, weight in enumerate(weights) if weight[0])
        doubled = tuple((2 * a if b % 2 else a, b if b % 2 else b // 2) for a, b in weights)
        self.assertTrue(judge(((way, goal, doubled), other)))
        for thing in (
                told[1:], told[:1], (), list(told), listed(told), None, 5, (told,), ((way, goal), other), ((way, "store", weights), other),
                ((way, "looks", weights), other), ((way, goal, bent(weights, (some,), at(0))), other),
                ((way, goal, bent(weights, (some,), (-1, 1))), other), ((way, goal, weights[1:]), other), ((way, goal, ()), other),
                ((bent(way, (3,), "fall"), goal, weights), other), ((bent(way, (3,), "release"), goal, weights), other),
                ((bent(way, (2,), 1), goal, weights), other), ((bent(way, (2,), False), goal, weights), other),
                ((bent(way, (0,), (False,)), goal, weights), other), ((bent(way, (1,), [0]), goal, weights), other),
                ((way[:3], goal, weights), other), told + (5,), told + ((way, goal, ()),), ((way, goal, list(weights)), other),
                ((way, [goal], weights), other), ((5, goal, weights), other), (((), goal, weights), other), ((way + (0,), goal, weights), other)):
            self.assertIs(judge(thing), False, thing)

    def test_where_no_hold_can_be_had(self):
        told = proof(SURE, 2, "looks")
        plan = changed(NO_HOLD, ("length", 0), (17, 2))
        with self.assertRaises(CanNot):
            proof(plan, 2, "looks")
        self.assertFalse(is_proof(plan, 2, "looks", ()))
        self.assertFalse(is_proof(plan, 2, "looks", told[1:]))

    def test_some_keeper_of_both(self):
        lots = ((0, 1), (0, 2), (1, 2))
        kept = ((at(20), "all", at(0)), (at(20), "all", at(0)), (at(2), "all", at(0)))
        plan = (lots, kept) + LONE[2:]
        self.assertEqual(reasons(plan, 2, "looks"), ("look",))
        plan = (lots, kept[:2] + ((at(9), "number", at(9)),)) + LONE[2:]
        told = proof(plan, 2, "looks")
        self.assertTrue(is_proof(plan, 2, "looks", told))
        ways_told = {way for way, _, _ in told}
        self.assertLess(len(ways_told), len(ways(plan)))
        for place in range(len(told)):
            self.assertFalse(is_proof(plan, 2, "looks", told[:place] + told[place + 1:]))


class BadRuns(unittest.TestCase):
    def check(self, plan, locks, language):
        run = bad_run(plan, locks, language)
        self.assertTrue(is_run(plan, run))
        self.assertTrue(is_within(run, min(locks, 2), language))
        self.assertTrue(is_bad(plan, run))
        self.assertTrue(bad_again(plan, run))
        clients = {house[1] for house, _, _, _ in run if house[0] == "client"}
        self.assertLessEqual(clients, {0, 1})
        if "keeps" in reasons(plan, locks, language):
            self.assertEqual(clients, {0})
        return run

    def test_drawn(self):
        draw = random.Random(195)
        found = {}
        for _ in range(90):
            plan = a_plan(draw)
            for locks, language in CASES:
                why = reasons(plan, locks, language)
                if why:
                    self.check(plan, locks, language)
                    found[why] = found.get(why, 0) + 1
                else:
                    with self.assertRaises(CanNot):
                        bad_run(plan, locks, language)
        for why in (("keeps",), ("store",), ("look",), ("look", "store"), ("keeps", "look"), ("keeps", "look", "store"), ("keeps", "store")):
            self.assertGreater(found[why], 10, why)

    def test_each_reason(self):
        for plan, locks, language in (
                (FORGETFUL, 1, "deeds"), (changed(FORGETFUL, ("sealed",), True), 1, "deeds"), (changed(LONE, ("asks", 0), False), 1, "deeds"),
                (EAGER, 2, "looks"), (EAGER, 3, "deeds"), (changed(EAGER, ("sealed",), True), 2, "looks"), (BORDER, 2, "deeds")):
            self.check(plan, locks, language)
        run = self.check(EAGER, 2, "deeds")
        self.assertEqual([event[3][0] for event in run if event[3][0] in ("look", "deed")], ["deed", "deed"])

    def test_no_plain_lock_of_a_right_one(self):
        draw = random.Random(196)
        found = 0
        for _ in range(150):
            plan = a_plan(draw, stores=((True, True),))
            if is_right(plan, 2, "looks") and can_hold(plan):
                run = a_run(draw, plan, 60, clients=3, locks=2)
                self.assertFalse(is_bad(plan, run))
                found += any(row for house, row in telling(plan, run) if any(entry[0] == "told" for entry in row))
        self.assertGreater(found, 8)


class Crossings(unittest.TestCase):
    def test_event_by_event(self):
        events = ((ME, at(0), ONE, ("ask", 0)), (KEEP, ONE, ONE, ("take", 0)), (THEM, ONE, (1, 2), ("take", 1)), (THEM, ONE, ONE, ("look", 1)),
                  (ME, ONE, ONE, ("deed", 0, 2, ("put", 1))), (ME, ONE, ONE, ("send",)), (("store", 0, 1), ONE, None, ("take", 5)),
                  (("store", 1, 1), ONE, None, ("fall",)), (("keeper", 1), ONE, ONE, ("fall",)))
        self.assertEqual(crossing(events), (
            (ME, at(0), ONE, ("ask", 0)), (THEM, at(0), ONE, ("ask", 1)), (KEEP, ONE, ONE, ("take", 0)), (KEEP, ONE, ONE, ("take", 1)),
            (THEM, ONE, (1, 2), ("take", 2)), (ME, ONE, (1, 2), ("take", 3)), (THEM, ONE, ONE, ("look", 1)), (ME, ONE, ONE, ("look", 0)),
            (ME, ONE, ONE, ("deed", 0, 2, ("put", 1))), (THEM, ONE, ONE, ("deed", 1, 2, ("put", 1))), (ME, ONE, ONE, ("send",)),
            (THEM, ONE, ONE, ("send",)), (("store", 0, 1), ONE, None, ("take", 10)), (("store", 1, 1), ONE, None, ("take", 11)),
            (("store", 1, 1), ONE, None, ("fall",)), (("store", 0, 1), ONE, None, ("fall",)), (("keeper", 1), ONE, ONE, ("fall",)),
            (("keeper", 1), ONE, ONE, ("fall",))))
        self.assertEqual(crossing(()), ())

    def test_unfit(self):
        for event in ((("client", 2), ONE, ONE, ("send",)), (ME, ONE, ONE, ("ask", 2)), (ME, ONE, ONE, ("deed", 2, 0, ("get",))),
                      (("store", 2, 0), ONE, None, ("fall",)), (("client", 2), ONE, ONE, ("take", 0))):
            with self.assertRaises(Unfit):
                crossing(((ME, ONE, ONE, ("ask", 0)), event))

    def test_of_open_runs(self):
        draw = random.Random(197)
        found = 0
        for _ in range(60):
            plan = a_plan(draw)
            for lot, other in open_pairs(plan, "look")[:2]:
                run = crossing(open_run(plan, lot, other, "look"))
                self.assertTrue(is_run(plan, run))
                self.assertTrue(is_bad(plan, run))
                found += 1
        self.assertGreater(found, 30)

    def test_machine_plays_it(self):
        machine = Machine(EAGER)
        run = crossing(open_run(EAGER, (0,), (0,), "look"))
        for event in run:
            machine.play(event)
        self.assertEqual(machine.run(), run)
        self.assertEqual(merged(run, ()), run)


class Calls(unittest.TestCase):
    def test_rules_for_every_function(self):
        run = bad_run(EAGER, 2, "looks")
        three = ("plan", "locks", "language")
        for plan, locks, language in ((SURE, 2, "looks"), (EAGER, 2, "deeds"), (NO_HOLD, 1, "looks"), (changed(LONE, ("asks", 0), False), 1, "looks")):
            for call in (reasons, is_right, proof, bad_run):
                check_call(self, call, three, (plan, locks, language))
            check_call(self, must_ask, ("plan",), (plan,))
        check_call(self, must_ask, ("plan",), (FORGETFUL,))
        check_call(self, is_within, ("run", "locks", "language"), (run, 1, "looks"))
        check_call(self, is_bad, ("plan", "run"), (EAGER, run))
        check_call(self, is_bad, ("plan", "run"), (EAGER, run[1:]))
        check_call(self, crossing, ("run",), (run,))
        check_call(self, crossing, ("run",), (((("client", 2), ONE, ONE, ("send",)),),))
        check_call(self, is_proof, three + ("thing",), (SURE, 2, "looks", proof(SURE, 2, "looks")), things=(3,))

    def test_at_the_bounds(self):
        lots = tuple(sorted({(a, b) for a in range(5) for b in range(a + 1, 5)}))[:8]
        plan = (lots, ((at(99), "number", at(99)),) * 5) + LONE[2:5] + (((False, True),) * 3, ())
        self.assertEqual(reasons(plan, 3, "looks"), ("look", "store"))
        majority = tuple(sorted({(a, b, c) for a in range(5) for b in range(a + 1, 5) for c in range(b + 1, 5)}))[:8]
        plan = changed((majority,) + plan[1:], ("most", "deed"), at(2))
        self.assertEqual(reasons(plan, 3, "looks"), ())
        told = proof(plan, 3, "looks")
        self.assertTrue(is_proof(plan, 3, "looks", told))


if __name__ == "__main__":
    unittest.main()
