"""[14]: WAYS, their SHEETS, and RUNS with late looks and deeds."""

import random
import unittest

from plainlock.errors import CanNot, NoPlace, Unfit
from plainlock.fractions import fraction, less, minus, over, plus, sum_of, times
from plainlock.plans import can_hold, changed, longest_belief, setting
from plainlock.runs import Machine, first_broken, is_run, sent, telling
from plainlock.sheets import greatest_between, is_no_way, is_play, is_sheet, no_way, play, with_ties
from plainlock.ways import hows, late_look, open_pairs, open_run, overlap, sheet, shut_sum, way_ends, ways, widest
from tests.drawing import FAULTS, a_plan, a_run, some_lots
from tests.helping import LONE, ONE, SLOPE, at, check_call

ME, THEM, KEEP = ("client", 0), ("client", 1), ("keeper", 0)
GOALS = ("look", "store")
LAPSE, RELEASE = ((0,), (0,), 0, "lapse"), ((0,), (0,), 0, "release")
FALL = LAPSE[:3] + ("fall",)
# Its keeper has a length, and forgets the holder; all of its numbers are unlike.
WIDE = (((0,),), (((8, 1), "number", (6, 1)),), (((1, 2), (1, 1)), ((1, 1), (2, 1))),
        (((1, 1), (2, 1)), ((1, 3), (5, 1)), ((1, 5), (7, 1)), ((1, 7), None)), ((10, 1), "sent", (11, 1), "once", False), ((True, True),), ())


def with_parts(plan, **parts):
    for name, value in parts.items():
        plan = changed(plan, (name,), value)
    return plan


def hold_by_grant(plan):
    """Whether a hold can be had, not by "bare grant" alone."""
    return plan[4][1] == "taken" or not less(longest_belief(plan), plus(plan[3][0][0], plan[3][1][0]))


class Hows(unittest.TestCase):
    def test_each_fault(self):
        self.assertEqual(hows(LONE, 0), ("lapse", "release"))
        self.assertEqual(hows(changed(LONE, ("length", 0), None), 0), ("release",))
        self.assertEqual(hows(changed(LONE, ("record", 0), "number"), 0), ("fall", "lapse", "release"))
        for fault, how in zip(FAULTS, ("late grant", "elder release", "forgotten", "revived")):
            self.assertEqual(hows(with_parts(LONE, faults=(fault,)), 0), tuple(sorted(("lapse", "release", how))))
        plan = changed(changed(with_parts(LONE, faults=FAULTS), ("length", 0), None), ("record", 0), "number")
        self.assertEqual(hows(plan, 0), ("elder release", "fall", "forgotten", "late grant", "release", "revived"))

    def test_by_keeper(self):
        plan = (((0, 1),), (((8, 1), "all", (0, 1)), (None, "number", (0, 1)))) + LONE[2:]
        self.assertEqual((hows(plan, 0), hows(plan, 1)), (("lapse", "release"), ("fall", "release")))
        for keeper in (2, -1, 7):
            with self.assertRaises(NoPlace) as caught:
                hows(plan, keeper)
            self.assertEqual(caught.exception.place, keeper)
        check_call(self, hows, ("plan", "keeper"), (plan, 1))
        check_call(self, hows, ("plan", "keeper"), (plan, 2))

    def test_ways(self):
        self.assertEqual(ways(LONE), (LAPSE, RELEASE))
        plan = (((0, 1), (1, 2)), LONE[1] * 2 + ((None, "number", ONE),)) + LONE[2:]
        wanted = [(lot, other, k, how) for lot in plan[0] for other in plan[0] for k in range(3) if k in lot and k in other for how in hows(plan, k)]
        self.assertEqual(ways(plan), tuple(sorted(wanted)))
        self.assertEqual(ways((((0,), (1,)), LONE[1] * 2) + LONE[2:]), (LAPSE, RELEASE, ((1,), (1,), 1, "lapse"), ((1,), (1,), 1, "release")))
        check_call(self, ways, ("plan",), (plan,))


def settings_again(plan, way, goal):
    """overlap as the document's words have it, one SETTING behind the other; None for endless."""
    _, _, keeper, how = way
    _, counts, _, releases, sealed = plan[4]
    if how in ("late grant", "forgotten", "revived"):
        return None
    told = {"ask": setting(plan, ("least", "ask")), "grant": setting(plan, ("least", "grant")), "deed": setting(plan, ("least", "deed")),
            "back": setting(plan, ("least", "back"))}
    total = []
    def add(value, times_):
        total.append(None if value is None else times(value, times_))
    if how == "release":
        add(told["ask"], at(-1))
        add(told["grant"], at(-1))
    else:
        add(setting(plan, ("term",)), over(ONE, setting(plan, ("slow", "client"))))
        if counts == "sent":
            add(told["ask"], at(-1))
            add(told["grant"], at(-1))
        else:
            add(setting(plan, ("most", "grant")), ONE)
            add(told["grant"], at(-1))
        if how == "lapse":
            add(setting(plan, ("length", keeper)), over(at(-1), setting(plan, ("fast", "keeper"))))
        if how == "fall":
            add(setting(plan, ("grace", keeper)), over(at(-1), setting(plan, ("fast", "keeper"))))
    if goal == "store":
        if how == "release" and releases == "waits":
            add(told["deed"], at(-1))
            add(told["back"], at(-1))
        else:
            if how != "release":
                add(setting(plan, ("stop",)), ONE)
            add(setting(plan, ("most", "deed")), ONE)
            add(told["deed"], at(-1))
    if sealed:
        add(told["deed"], at(-1))
        add(told["back"], at(-1))
    return None if None in total else sum_of(total)


class Overlap(unittest.TestCase):
    def test_by_hand(self):
        # term / slow 20, ask 1, grant 1/3, length / fast 4, grace / fast 3, stop 11, deed 7 - 1/5, back 1/7
        for way, goal, wanted in ((LAPSE, "look", (44, 3)), (FALL, "look", (47, 3)), (RELEASE, "look", (-4, 3)),
                                  (LAPSE, "store", (487, 15)), (FALL, "store", (502, 15)), (RELEASE, "store", (82, 15))):
            self.assertEqual(overlap(WIDE, way, goal), wanted, (way, goal))
        sealed = with_parts(WIDE, sealed=True)
        for way, goal, wanted in ((LAPSE, "look", (44, 3)), (RELEASE, "look", (-4, 3)), (RELEASE, "store", (82, 15))):
            self.assertEqual(overlap(sealed, way, goal), minus(wanted, (12, 35)))
        waits = with_parts(WIDE, releases="waits")
        self.assertEqual(overlap(waits, RELEASE, "store"), minus((-4, 3), (12, 35)))
        self.assertEqual(overlap(waits, RELEASE, "look"), (-4, 3))
        taken = with_parts(WIDE, counts="taken")
        # term / slow 20, grant 5 - 1/3, length / fast 4
        self.assertEqual(overlap(taken, LAPSE, "look"), (62, 3))
        self.assertEqual(overlap(taken, RELEASE, "look"), (-4, 3))
        bare = with_parts(WIDE, faults=("bare release",))
        self.assertEqual(overlap(bare, LAPSE[:3] + ("elder release",), "look"), (56, 3))

    def test_endless(self):
        for fault, how in (("bare grant", "late grant"), ("forgets", "forgotten"), ("revives", "revived")):
            for goal in GOALS:
                self.assertIsNone(overlap(with_parts(WIDE, faults=(fault,)), LAPSE[:3] + (how,), goal))
        self.assertIsNone(overlap(with_parts(WIDE, stop=None), LAPSE, "store"))
        self.assertEqual(overlap(with_parts(WIDE, stop=None), LAPSE, "look"), (44, 3))
        self.assertEqual(overlap(with_parts(WIDE, stop=None), RELEASE, "store"), (82, 15))
        self.assertIsNone(overlap(changed(WIDE, ("most", "deed"), None), RELEASE, "store"))
        grant = changed(WIDE, ("most", "grant"), None)
        self.assertEqual(overlap(grant, LAPSE, "look"), (44, 3))
        self.assertIsNone(overlap(with_parts(grant, counts="taken"), LAPSE, "look"))
        self.assertEqual(overlap(with_parts(grant, counts="taken"), RELEASE, "look"), (-4, 3))

    def test_no_way(self):
        plan = (((0, 1), (2,)), LONE[1] * 3) + LONE[2:]
        for way in (((0, 1), (2,), 0, "lapse"), ((0, 1), (0, 1), 2, "lapse"), ((0, 1), (0, 1), 0, "fall"), ((0,), (0,), 0, "lapse"),
                    ((0, 1), (0, 1), 0, "late grant"), (), ((0, 1), (0, 1), 0), ((0, 1), (0, 1), 9, "lapse"), ((0, 1), (0, 1), -1, "lapse")):
            for goal in GOALS:
                for call in (overlap, sheet, way_ends, shut_sum):
                    self.assertRaises(Unfit, call, plan, way, goal)
        check_call(self, overlap, ("plan", "way", "goal"), (plan, ((0, 1), (2,), 0, "lapse"), "look"))

    def test_drawn(self):
        draw = random.Random(1)
        for _ in range(150):
            plan = a_plan(draw)
            for way in ways(plan):
                for goal in GOALS:
                    self.assertEqual(overlap(plan, way, goal), settings_again(plan, way, goal), (plan, way, goal))
            check_call(self, overlap, ("plan", "way", "goal"), (plan, draw.choice(ways(plan)), draw.choice(GOALS)))


class Sheets(unittest.TestCase):
    """Row by row, in the PLAN whose numbers are unlike."""

    CLOCKS = (WIDE[2][0], WIDE[2][1], WIDE[2][0], SLOPE, SLOPE)
    ASK, GRANT, DEED, BACK = WIDE[3]

    def check(self, plan, way, goal, events, letters, spans, ties, ends):
        wanted = (self.CLOCKS, events, letters, spans, ties)
        self.assertEqual(sheet(plan, way, goal), wanted)
        self.assertTrue(is_sheet(wanted))
        self.assertEqual(way_ends(plan, way, goal), ends)
        check_call(self, sheet, ("plan", "way", "goal"), (plan, way, goal))
        check_call(self, way_ends, ("plan", "way", "goal"), (plan, way, goal))

    def test_look(self):
        ask, grant = self.ASK, self.GRANT
        term, length, grace = (0, 1), (8, 1), (6, 1)
        self.check(WIDE, LAPSE, "look", (0, 1, 0, 0, 1, 2), ((0, 1) + ask, (1, 2) + grant, (4, 5) + grant),
                   ((1, 4, length, None), (0, 3, term, (10, 1))), (), (5, 3))
        self.check(WIDE, FALL, "look", (0, 1, 0, 0, 1, 1, 2), ((0, 1) + ask, (1, 2) + grant, (5, 6) + grant),
                   ((4, 5, grace, None), (0, 3, term, (10, 1))), (), (6, 3))
        self.check(WIDE, RELEASE, "look", (0, 1, 0, 0, 0, 1, 1, 2), ((0, 1) + ask, (1, 2) + grant, (4, 5) + ask, (6, 7) + grant),
                   ((0, 3, term, (10, 1)),), (), (7, 3))

    def test_store(self):
        ask, grant, deed, back = self.ASK, self.GRANT, self.DEED, self.BACK
        span = (0, 3, (0, 1), (10, 1))
        ties = ((3, 4, (11, 1)),)
        self.check(WIDE, LAPSE, "store", (0, 1, 0, 0, 0, 3, 1, 2, 2, 4), ((0, 1) + ask, (1, 2) + grant, (4, 5) + deed, (6, 7) + grant, (8, 9) + deed),
                   ((1, 6, (8, 1), None), span), ties, (9, 5))
        self.check(WIDE, FALL, "store", (0, 1, 0, 0, 0, 3, 1, 1, 2, 2, 4),
                   ((0, 1) + ask, (1, 2) + grant, (4, 5) + deed, (7, 8) + grant, (9, 10) + deed), ((6, 7, (6, 1), None), span), ties, (10, 5))
        self.check(WIDE, RELEASE, "store", (0, 1, 0, 0, 0, 3, 0, 1, 1, 2, 2, 4),
                   ((0, 1) + ask, (1, 2) + grant, (6, 7) + ask, (4, 5) + deed, (8, 9) + grant, (10, 11) + deed), (span,), ties, (11, 5))
        waits = with_parts(WIDE, releases="waits")
        self.check(waits, RELEASE, "store", (0, 1, 0, 0, 0, 3, 0, 0, 1, 1, 2, 2, 4),
                   ((0, 1) + ask, (1, 2) + grant, (7, 8) + ask, (4, 5) + deed, (5, 6) + back, (9, 10) + grant, (11, 12) + deed),
                   (span,), ties, (12, 5))
        self.assertEqual(sheet(with_parts(WIDE, stop=None), LAPSE, "store")[4], ())

    def test_sealed_and_taken(self):
        ask, grant, deed, back = self.ASK, self.GRANT, self.DEED, self.BACK
        plan = with_parts(WIDE, sealed=True, counts="taken")
        span = (2, 3, (0, 1), (10, 1))
        self.check(plan, LAPSE, "look", (0, 1, 0, 0, 1, 2, 4, 2), ((0, 1) + ask, (1, 2) + grant, (4, 5) + grant, (5, 6) + deed, (6, 7) + back),
                   ((1, 4, (8, 1), None), span), (), (7, 3))
        self.check(plan, LAPSE, "store", (0, 1, 0, 0, 0, 3, 1, 2, 4, 2, 2, 4),
                   ((0, 1) + ask, (1, 2) + grant, (4, 5) + deed, (6, 7) + grant, (7, 8) + deed, (8, 9) + back, (10, 11) + deed),
                   ((1, 6, (8, 1), None), span), ((3, 4, (11, 1)),), (11, 5))

    def test_none(self):
        for fault, how in zip(FAULTS, ("late grant", "elder release", "forgotten", "revived")):
            plan = with_parts(WIDE, faults=(fault,))
            for call in (sheet, way_ends, shut_sum):
                for goal in GOALS:
                    self.assertRaises(CanNot, call, plan, LAPSE[:3] + (how,), goal)
                    check_call(self, call, ("plan", "way", "goal"), (plan, LAPSE[:3] + (how,), goal))

    def test_overlap_is_what_the_sheet_lets(self):
        draw = random.Random(2)
        many = endless = 0
        for _ in range(250):
            plan = a_plan(draw)
            if hold_by_grant(plan):
                for way in ways(plan):
                    for goal in GOALS:
                        if way[3] in ("lapse", "fall", "release") and draw.random() < 0.5:
                            told = greatest_between(sheet(plan, way, goal), *way_ends(plan, way, goal))
                            self.assertEqual(told, overlap(plan, way, goal), (plan, way, goal))
                            many += 1
                            endless += told is None
        self.assertGreater(many, 300)
        self.assertGreater(endless, 20)

    def test_shut_sum(self):
        draw = random.Random(3)
        shut = 0
        for _ in range(120):
            plan = a_plan(draw)
            for way in ways(plan):
                for goal in GOALS:
                    width = overlap(plan, way, goal)
                    if width is None or not less(width, (0, 1)):
                        self.assertRaises(CanNot, shut_sum, plan, way, goal)
                    elif way[3] == "elder release":
                        self.assertRaises(CanNot, shut_sum, plan, way, goal)
                    else:
                        start, end = way_ends(plan, way, goal)
                        tied = with_ties(sheet(plan, way, goal), ((end, start, (0, 1)),))
                        self.assertTrue(is_no_way(tied, shut_sum(plan, way, goal)))
                        shut += 1
            check_call(self, shut_sum, ("plan", "way", "goal"), (plan, draw.choice(ways(plan)), draw.choice(GOALS)))
        self.assertGreater(shut, 100)
        bare = with_parts(LONE, faults=("bare grant",), term=(1, 1))
        sheet_of = with_ties(sheet(bare, LAPSE, "look"), ((3, 5, (0, 1)),))
        self.assertTrue(is_no_way(sheet_of, shut_sum(bare, LAPSE, "look")))

    def test_at_the_very_border(self):
        for length, shut in (((8, 1), False), ((8001, 1000), True)):
            plan = changed(LONE, ("length", 0), length)
            start, end = way_ends(plan, LAPSE, "look")
            tied = with_ties(sheet(plan, LAPSE, "look"), ((end, start, (0, 1)),))
            if shut:
                self.assertTrue(is_no_way(tied, shut_sum(plan, LAPSE, "look")))
                self.assertTrue(is_no_way(tied, no_way(tied)))
            else:
                self.assertRaises(CanNot, shut_sum, plan, LAPSE, "look")
                self.assertTrue(is_play(tied, play(tied)))


class Pairs(unittest.TestCase):
    def test_by_hand(self):
        plan = (((0, 1), (0, 2), (3,)), (((8, 1), "all", ONE), (None, "all", ONE), ((9, 1), "number", (3, 1)), (None, "all", ONE))) + LONE[2:]
        for lot, other, wanted in (((0, 1), (0, 1), (-2, 1)), ((0, 1), (0, 2), (0, 1)), ((0, 2), (0, 2), (0, 1)), ((0, 1), (3,), None),
                                   ((3,), (3,), (-2, 1))):
            self.assertEqual(widest(plan, lot, other, "look"), wanted)
            self.assertEqual(widest(plan, other, lot, "look"), wanted)
        self.assertEqual(open_pairs(plan, "look"), (
            ((0, 1), (0, 2)), ((0, 1), (3,)), ((0, 2), (0, 1)), ((0, 2), (0, 2)), ((0, 2), (3,)), ((3,), (0, 1)), ((3,), (0, 2))))
        self.assertEqual(widest(changed(plan, ("stop",), None), (0, 2), (0, 2), "store"), None)
        self.assertEqual(widest(changed(plan, ("stop",), None), (0, 1), (0, 2), "store"), None)
        self.assertEqual(widest(changed(plan, ("stop",), None), (0, 1), (0, 1), "store"), (0, 1))
        self.assertEqual(open_pairs(changed(plan, ("term",), (1, 1)), "look"), ())
        self.assertEqual(open_pairs(changed(plan, ("term",), (1, 1)), "store"), ())
        for call, given in ((widest, (plan, (0, 1), (0, 2), "look")), (widest, (plan, (0, 1), (1,), "look"))):
            check_call(self, call, ("plan", "lot", "other", "goal"), given)
        check_call(self, open_pairs, ("plan", "goal"), (plan, "store"))

    def test_no_lots(self):
        for call in (widest, open_run):
            for goal in GOALS:
                self.assertRaises(Unfit, call, LONE, (0,), (0, 1), goal)
                self.assertRaises(Unfit, call, LONE, (1,), (0,), goal)
                self.assertRaises(Unfit, call, LONE, (), (0,), goal)

    def test_drawn(self):
        draw = random.Random(4)
        found = 0
        for _ in range(300):
            plan = a_plan(draw)
            for goal in GOALS:
                pairs = []
                for lot in plan[0]:
                    for other in plan[0]:
                        told = [[overlap(plan, way, goal) for way in ways(plan) if way[:3] == (lot, other, k)] for k in lot if k in other]
                        each = [None if None in some else most_of(some) for some in told]
                        ends = [some for some in each if some is not None]
                        wanted = least_of(ends) if ends else None
                        self.assertEqual(widest(plan, lot, other, goal), wanted)
                        if can_hold(plan) and all(any(some is None or some[0] >= 0 for some in one) for one in told):
                            pairs.append((lot, other))
                found += len(pairs)
                self.assertEqual(open_pairs(plan, goal), tuple(pairs))
        self.assertGreater(found, 300)


def most_of(some):
    best = some[0]
    for x in some:
        best = x if less(best, x) else best
    return best


def least_of(some):
    best = some[0]
    for x in some:
        best = x if less(x, best) else best
    return best


def late_again(plan, run):
    """late_look, each look read off all that was told ahead of it."""
    machine, told = Machine(plan), []
    for number, event in enumerate(run):
        house = event[0]
        before = machine.row(house)
        machine.play(event)
        for entry in machine.row(house)[len(before):]:
            if house[0] == "client" and entry[0] == "told":
                told.append((number, house, entry[1], entry[2]))
            if house[0] == "client" and (entry[0] == "deed" or entry[:1] + entry[2:] == ("look", True)):
                own = [some[3] for some in told if some[1] == house and some[2] == entry[1]][-1]
                greater = [some[0] for some in told if some[2] == entry[1] and some[3] > own]
                if greater:
                    return (min(greater), number)
    return None


class Late(unittest.TestCase):
    def asks(self, many, client, start, first):
        """Client asks at start for the lock 0 and is told 2 later; its EVENTS are those from first on."""
        return ((client, at(start), at(start), ("ask", 0)), (KEEP, at(start + 1), at(start + 1), ("take", first)),
                (client, at(start + 2), at(start + 2), ("take", first + 1)))

    def test_by_hand(self):
        run = self.asks(0, ME, 0, 0) + self.asks(0, THEM, 8, 3)
        look, deed = (ME, at(10), at(10), ("look", 0)), (ME, at(10), at(10), ("deed", 0, 0, ("get",)))
        self.assertEqual(late_look(LONE, run + (look, deed)), (5, 6))
        self.assertEqual(late_look(LONE, run + (deed,)), (5, 6))
        self.assertIsNone(late_look(LONE, run))
        self.assertIsNone(late_look(LONE, run[:5] + (look, run[5], (THEM, at(10), at(10), ("look", 0)))))
        self.assertIsNone(late_look(LONE, run + ((ME, (21, 2), (21, 2), ("look", 0)), (ME, (21, 2), (21, 2), ("deed", 0, 0, ("get",))))))
        self.assertIsNone(late_look(LONE, ()))
        other = tuple((h, m, r, a if a[0] == "take" else ("ask", 1)) for h, m, r, a in self.asks(0, THEM, 8, 3))
        self.assertIsNone(late_look(LONE, self.asks(0, ME, 0, 0) + other + (look,)))
        check_call(self, late_look, ("plan", "run"), (LONE, run + (look,)))

    def test_the_first_telling(self):
        plan = changed(LONE, ("length", 0), at(0))
        run = self.asks(0, ME, 0, 0) + self.asks(0, THEM, 2, 3) + self.asks(0, ("client", 2), 4, 6) + ((ME, at(7), at(7), ("look", 0)),)
        self.assertEqual(late_look(plan, run), (5, 9))

    def test_of_drawn_runs(self):
        draw = random.Random(5)
        late = 0
        for _ in range(250):
            lots = some_lots(draw, 2)
            keepers = tuple((at(draw.randint(0, 4)), draw.choice(("all", "number")), at(draw.randint(0, 2))) for _ in range(2))
            plan = (lots, keepers, (SLOPE, SLOPE)) + LONE[3:4] + (((12, 1), "sent", ONE, "once", False), ((False, True),), ())
            if draw.random() < 0.4:
                plan = (plan, (some_lots(draw, 2),) + plan[1:])
            run = a_run(draw, plan, 60)
            told = late_look(plan, run)
            self.assertEqual(told, late_again(plan, run))
            late += told is not None
            if told:
                one = plan[0] if len(plan) == 2 else plan
                self.assertTrue(is_run(plan, run[:told[1] + 1]))
                if len(plan) == 7:
                    pairs = [widest(one, lot, other, "look") for lot, other in open_pairs(one, "look")]
                    self.assertTrue(pairs)
                    if None not in pairs:
                        self.assertFalse(less(most_of(pairs), minus(run[told[1]][1], run[told[0]][1])))
        self.assertGreater(late, 20)

    def test_none_without_an_open_pair(self):
        draw = random.Random(6)
        shut = 0
        for _ in range(400):
            plan = a_plan(draw, draw.randint(1, 2))
            if not open_pairs(plan, "look") and can_hold(plan):
                self.assertIsNone(late_look(plan, a_run(draw, plan, 50)))
                shut += 1
        self.assertGreater(shut, 40)


    def test_no_late_deed_without_an_open_pair(self):
        """At a store that does not ask, but keeps, so that its falls are nothing."""
        draw = random.Random(13)
        plan = with_parts(LONE, term=at(40))
        for name, value in ((("asks", 0), False), (("most", "deed"), at(2)), (("length", 0), (157, 4)), (("most", "ask"), at(9)), (("most", "grant"), at(9))):
            plan = changed(plan, name, value)
        self.assertEqual(open_pairs(plan, "store"), ())
        self.assertEqual(widest(plan, (0,), (0,), "store"), (-1, 4))
        done = numbers = 0
        for _ in range(150):
            run = a_run(draw, plan, 90, 2)
            for house, row in telling(plan, run):
                if house[0] == "store":
                    done += len(row)
                    numbers += len({entry[0] for entry in row}) > 1
                    for k, entry in enumerate(row):
                        self.assertFalse(any(ahead[0] > entry[0] for ahead in row[:k]), run)
        self.assertGreater(done, 50)
        self.assertGreater(numbers, 5)


class OpenRuns(unittest.TestCase):
    def believes(self, plan, run, upto, client, lot):
        """Whether the client believes by this LOT behind the EVENTS ahead of upto, at the moment of the next."""
        machine = Machine(plan)
        starts, letters = {}, sent(plan, run)
        number = None
        noted = {}
        newest = None
        for k, event in enumerate(run[:upto]):
            house, _, reading, act = event
            machine.play(event)
            if house != client:
                continue
            for _, letter in letters[k]:
                if letter[0] == "ask":
                    if letter[2] != number:
                        number, starts, noted = letter[2], {}, {}
                    noted[letter[3]], newest = reading, letter[3]
            if act[0] == "take":
                letter = dict(letters[act[1]])[client]
                sender = run[act[1]][0]
                if letter[0] == "grant" and number is not None:
                    of, serial = letter[2:] if len(letter) == 4 else (number, newest)
                    if of == number and serial in noted:
                        start = reading if plan[4][1] == "taken" else noted[serial]
                        starts[sender[1]] = start if sender[1] not in starts else most_of([start, starts[sender[1]]])
        reading = run[upto][2]
        return all(k in starts and not less(plus(starts[k], plan[4][0]), reading) for k in lot)

    def check_form(self, plan, goal, run):
        self.assertEqual(first_broken(plan, run), None)
        letters, counts = sent(plan, run), {}
        slow, fast = plan[2][0][0], plan[2][1][1]
        for house, moment, reading, act in run:
            self.assertTrue(house in (ME, THEM) or house[0] == "keeper" or house[:2] == ("store", 0))
            if house[0] != "store":
                self.assertEqual(reading, times(slow if house[0] == "client" else fast, moment))
            if act == ("fall",):
                self.assertEqual(house[0], "keeper")
            self.assertFalse(goal == "look" and act[0] == "deed")
            if act[0] in ("ask", "again", "anew", "not now", "release", "look", "deed"):
                self.assertEqual(act[1], 0)
            if act[0] == "take" and house[0] != "client":
                letter = dict(letters[act[1]])[house]
                number = letter[2] if house[0] == "keeper" else letter[3]
                counts.setdefault((house, number[0]), set()).add(number[1])
        self.assertTrue(all(len(clients) == 1 for clients in counts.values()))

    def told_at(self, plan, run, client):
        machine = Machine(plan)
        for k, event in enumerate(run):
            before = machine.row(client)
            machine.play(event)
            for entry in machine.row(client)[len(before):]:
                if entry[0] == "told":
                    yield k, entry[2]

    def check(self, plan, lot, other, goal):
        run = open_run(plan, lot, other, goal)
        self.check_form(plan, goal, run)
        own, greater = list(self.told_at(plan, run, ME)), list(self.told_at(plan, run, THEM))
        told = max(k for k, _ in greater)
        acts = [k for k, event in enumerate(run) if event[0] == ME and event[3][0] in ("look", "deed")]
        if goal == "look":
            pair = late_look(plan, run)
            self.assertEqual(run[pair[1]][0], ME)
            self.assertEqual(run[pair[0]][0], THEM)
            look = pair[1]
            self.assertLess(told, look)
        else:
            rows = {house: row for house, row in telling(plan, run) if house[0] == "store"}
            late = [(house, entry) for house, row in rows.items() for k, entry in enumerate(row)
                    if any(ahead[0] > entry[0] for ahead in row[:k])]
            self.assertTrue(any(entry[0][1] == 0 and not plan[5][house[2]][0] for house, entry in late))
            look = acts[-1]
        self.assertGreater(max(number for _, number in greater)[0], own[-1][1][0])
        self.assertTrue(self.believes(plan, run, look, ME, lot), (plan, run))
        # all that is taken at the moment of the telling counts
        moment = run[told][1]
        upto = max(k for k, event in enumerate(run) if event[:1] == (THEM,) and event[1] == moment)
        self.assertTrue(self.believes(plan, run + ((THEM, moment, run[told][2], ("look", 0)),), upto + 1, THEM, other)
                        if upto == len(run) - 1 else self.believes_at(plan, run, upto, told, other))

    def believes_at(self, plan, run, upto, told, other):
        run = run[:upto + 1]
        return self.believes(plan, run + ((THEM, run[told][1], run[told][2], ("look", 0)),), upto + 1, THEM, other)

    def test_drawn(self):
        draw = random.Random(7)
        made = {goal: 0 for goal in GOALS}
        words = set()
        for _ in range(350):
            plan = a_plan(draw)
            for goal in GOALS:
                pairs = open_pairs(plan, goal)
                for lot in plan[0]:
                    for other in plan[0]:
                        if (lot, other) not in pairs or (goal == "store" and all(asks for asks, _ in plan[5])):
                            self.assertRaises(CanNot, open_run, plan, lot, other, goal)
                        else:
                            self.check(plan, lot, other, goal)
                            made[goal] += 1
                            words |= set(plan[6]) | {plan[4][1], plan[4][3], plan[4][4]}
        self.assertTrue(all(many > 150 for many in made.values()), made)
        self.assertLessEqual({"sent", "taken", "once", "waits", True, False} | set(FAULTS), words)

    def test_each_fault_alone(self):
        draw = random.Random(8)
        for fault in FAULTS:
            for _ in range(25):
                plan = a_plan(draw, faults=(fault,), stores=((True, True), (False, False)), sealed=False)
                for goal in GOALS:
                    for lot, other in open_pairs(plan, goal):
                        self.check(plan, lot, other, goal)

    def test_endless_settings(self):
        draw = random.Random(9)
        for _ in range(60):
            plan = a_plan(draw, faults=(), stores=((False, True),), stop=None, sealed=draw.random() < 0.5)
            for leg in ("grant", "deed", "ask", "back"):
                plan = changed(plan, ("most", leg), None)
            for goal in GOALS:
                for lot, other in open_pairs(plan, goal):
                    self.check(plan, lot, other, goal)

    def test_at_the_very_border(self):
        for length, is_open in ((at(8), True), ((8001, 1000), False)):
            plan = changed(LONE, ("length", 0), length)
            if is_open:
                self.check(plan, (0,), (0,), "look")
            else:
                self.assertRaises(CanNot, open_run, plan, (0,), (0,), "look")
        self.assertRaises(CanNot, open_run, LONE, (0,), (0,), "store")
        self.check(changed(LONE, ("asks", 0), False), (0,), (0,), "store")
        hold = changed(LONE, ("term",), (3, 2))
        self.assertRaises(CanNot, open_run, hold, (0,), (0,), "look")
        self.assertRaises(Unfit, open_run, hold, (0,), (1,), "look")

    def test_greatest_ones(self):
        draw = random.Random(10)
        keepers = tuple((fraction(10 ** 12 + k, 10 ** 11 + 7), draw.choice(("all", "number")), fraction(10 ** 9 + k, 10 ** 9 - 3)) for k in range(5))
        lots = tuple(sorted({tuple(sorted(draw.sample(range(5), draw.randint(2, 5)))) for _ in range(12)}))[:8]
        leg = (fraction(1, 10 ** 12 + 39), fraction(10 ** 15 + 1, 10 ** 13 - 1))
        plan = (lots, keepers, (((1, 3), (7, 5)), ((2, 3), (9, 8))), (leg,) * 4,
                (fraction(10 ** 30 + 1, 10 ** 27), "taken", None, "once", True), ((False, True), (True, True), (True, False)), ())
        for goal in GOALS:
            pairs = open_pairs(plan, goal)
            self.assertTrue(pairs)
            for lot, other in draw.sample(pairs, 3):
                self.check(plan, lot, other, goal)

    def test_rules_for_calls(self):
        plan = changed(LONE, ("asks", 0), False)
        for goal in GOALS:
            for given in ((plan, (0,), (0,), goal), (LONE, (0,), (0,), goal), (plan, (0,), (1,), goal)):
                check_call(self, open_run, ("plan", "lot", "other", "goal"), given)


if __name__ == "__main__":
    unittest.main()
