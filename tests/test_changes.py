"""[24]: PLANS changed while they run."""

import itertools
import random
import unittest

from plainlock.borders import holds, is_condition, mend, stretches
from plainlock.changes import crossings, is_change, is_run_of, joint, late_run, mix_web, smooth_where
from plainlock.clauses import FAILS, HOLDS, both, clause_of, either
from plainlock.errors import CanNot
from plainlock.fractions import greatest, less, minus, negative, over, plus, sum_of
from plainlock.mixes import Mixing
from plainlock.overtaking import Overtaking
from plainlock.plain import list_of
from plainlock.plans import can_hold, changed, is_plan, longest_belief
from plainlock.right import is_right
from plainlock.rings import is_schedule, schedule
from plainlock.runs import is_run, telling
from plainlock.ways import late_look, open_run
from tests.drawing import Player, a_fraction, a_plan
from tests.helping import LONE, ONE, at, bent, check_call, listed

ME, THEM, KEEP = ("client", 0), ("client", 1), ("keeper", 0)
SURE = changed(LONE, ("length", 0), (17, 2))
LONG = changed(changed(SURE, ("term",), at(12)), ("length", 0), at(11))
TOGETHER = (("keepers", "start", "stop"),)
WORDS = ("keepers", "start", "stop")
STAGES = (
    TOGETHER, (("stop",), ("start",), ("keepers",)), (("start", "stop"), ("keepers",)), (("keepers",), ("start", "stop")),
    (("stop",), ("keepers", "start")), (("stop",), ("keepers",), ("start",)), (("keepers", "stop"), ("start",)), (("keepers",), ("stop",), ("start",)))


def a_change(draw, tight=True):
    """A CHANGE; tight: of PLANS that are nearly right, so that some CHANGES are smooth."""
    many = draw.randint(1, 3)
    old, new = (a_plan(draw, keepers=many, faults=(), sealed=False, stores=((True, True),)) for _ in range(2))
    if tight:
        old, new = tightened(draw, old), tightened(draw, new)
    new = new[:2] + old[2:4] + new[4:5] + old[5:]
    if draw.random() < 0.3:
        new = new[:1] + old[1:2] + new[2:]
    stages = draw.choice(STAGES)
    return (old, new, stages, tuple(a_fraction(draw, 0, 20) for _ in stages[1:]))


def tightened(draw, plan):
    """plan with its keepers keeping about as long as it believes, each two LOTS with a keeper in common."""
    many = len(plan[1])
    lots = tuple(itertools.combinations(range(many), many // 2 + 1)) if draw.random() < 0.8 else ((0,),)
    length = plus(over(longest_belief(plan), over(ONE, plan[2][1][1])), a_fraction(draw, -1, 6))
    length = length if less(at(0), length) else ONE
    kept = tuple((length, draw.choice(("all", "number")), draw.choice((length, plus(length, ONE)))) for _ in range(many))
    return (lots, kept) + plan[2:]


def stage_of(stages, word):
    return [word in stage for stage in stages].index(True)


def ties_again(change, mix):
    """The TIES of a MIX, row by row as the document has them."""
    old, new, stages, waits = change
    a, b, keeper, (how, by) = mix
    plans = {"old": old, "new": new}
    (ask, ask_most), (grant, grant_most) = old[3][:2]
    fast = old[2][1][1]
    found = []

    def apart(x, y, time):
        found.append((y, x, negative(time)))

    def within(x, y, *times):
        if None not in times:
            found.append((x, y, sum_of(times)))

    for x, y in ((3, 4), (7, 6)):
        apart(x, y, ask)
        within(x, y, ask_most)
    apart(4, 9, grant)
    apart(6, 8, grant)
    apart(8, 9, at(0))
    if plans[a][4][1] == "sent":
        within(3, 9, longest_belief(plans[a]))
    else:
        within(4, 9, longest_belief(plans[a]), grant_most)
    apart(*((3, 0) if a == "old" else (1, 3)), at(0))
    if b == "old":
        apart(7, 0, at(0))
        mosts = (ask_most, grant_most) if old[4][1] == "taken" else ()
        within(0, 8, longest_belief(old), *mosts)
    else:
        apart(1, 7, at(0))
    length, _, grace = plans[by][1][keeper]
    last = 4 if how == "lapse" else 5
    if how == "lapse":
        apart(4, 6, over(length, fast))
    else:
        apart(4, 5, at(0))
        apart(5, 6, over(grace, fast))
    apart(*((last, 2) if by == "old" else (2, last)), at(0))
    for p, q in itertools.permutations(("stop", "start", "keepers"), 2):
        first, later = stage_of(stages, p), stage_of(stages, q)
        if first < later and q != "stop":
            apart({"stop": 0, "start": 1, "keepers": 2}[p], {"stop": 0, "start": 1, "keepers": 2}[q], sum_of(waits[first:later]))
    return sorted(found)


def mixes(change, a, b, keeper):
    for by, plan in (("old", change[0]), ("new", change[1])):
        length, record, _ = plan[1][keeper]
        if length is not None:
            yield (a, b, keeper, ("lapse", by))
        if record == "number":
            yield (a, b, keeper, ("fall", by))


def crossings_again(change):
    found = []
    for a, b in itertools.product(("old", "new"), repeat=2):
        one, two = change[a == "new"], change[b == "new"]
        if not can_hold(one) or not can_hold(two):
            continue
        for lot, other in itertools.product(one[0], two[0]):
            if all(any(can_be(change, mix) for mix in mixes(change, a, b, keeper)) for keeper in set(lot) & set(other)):
                found.append(((a, lot), (b, other)))
    return tuple(sorted(found))


def can_be(change, mix):
    try:
        schedule((10, tuple(ties_again(change, mix))))
    except CanNot:
        return False
    return True


class Changes(unittest.TestCase):
    def test_so(self):
        for stages in STAGES:
            self.assertIs(is_change((SURE, LONG, stages, (at(0), (5, 2))[:len(stages) - 1])), True, stages)
        self.assertIs(is_change((SURE, SURE, TOGETHER, ())), True)
        other = (((0,), (0, 1)), ((None, "number", ONE), (ONE, "all", ONE))) + SURE[2:4] + ((at(3), "taken", None, "waits", False),) + SURE[5:]
        mine = (((0,),), SURE[1] * 2) + SURE[2:]
        self.assertIs(is_change((mine, other, TOGETHER, ())), True)

    def test_each_condition(self):
        whole = (SURE, LONG, (("stop",), ("start",), ("keepers",)), (at(1), at(2)))
        self.assertTrue(is_change(whole))
        for path, new in (
                ((), None), ((), whole[:3]), ((), whole + (0,)), ((), list(whole)), ((), listed(whole)), ((0,), None), ((1,), SURE[:6]),
                ((0,), changed(SURE, ("sealed",), True)), ((1,), changed(LONG, ("sealed",), True)), ((0,), changed(SURE, ("faults",), ("revives",))),
                ((1,), changed(LONG, ("faults",), ("forgets",))), ((0,), changed(SURE, ("asks", 0), False)), ((1,), changed(LONG, ("keeps", 0), False)),
                ((1,), changed(LONG, ("slow", "client"), (1, 2))), ((1,), changed(LONG, ("most", "deed"), at(9))), ((1, 1), LONG[1] * 2),
                ((1, 5), LONG[5] * 2), ((2,), (("stop",), ("start",))), ((2,), (("start",), ("stop",), ("keepers",))), ((2,), ()),
                ((2,), (("stop",), ("start",), ("keepers",), ())), ((2, 1), ()), ((2, 1), ("start", "start")), ((2, 1), ("keepers", "start")),
                ((2, 1), ("halt",)), ((2, 1), "start"), ((2, 1), ["start"]), ((2, 0), (0,)), ((2,), (("stop", "start"), ("keepers",))),
                ((3,), ()), ((3,), (at(1),)), ((3,), (at(1), at(2), at(3))), ((3, 0), (-1, 1)), ((3, 0), None), ((3, 0), 1), ((3,), [at(1), at(2)])):
            self.assertIs(is_change(bent(whole, path, new)), False, (path, new))
        both_unasked = bent(bent(whole, (0, 5), ((False, True),)), (1, 5), ((False, True),))
        self.assertIs(is_change(both_unasked), False)
        both_faulty = bent(bent(whole, (0, 6), ("revives",)), (1, 6), ("revives",))
        self.assertIs(is_change(both_faulty), False)
        one_stage = (SURE, LONG, (("keepers", "start"), ("stop",)), (at(0),))
        self.assertIs(is_change(one_stage), False)
        for path, new in (((1, 0), ((5,),)), ((1, 4, 0), None), ((1, 1, 0, 1), "some"), ((0, 1, 0, 0), (-1, 1))):
            self.assertIs(is_change(bent(whole, path, new)), False, path)
        for stages, waits in (((("keepers", "start", "stop"), ()), 1), (((), ("keepers", "start", "stop")), 1), ((("stop",), ("start", "keepers")), 1),
                              ((("stop", "keepers"), ("start",)), 1), ((("stop",), ("keepers", 0), ("start",)), 2), ((("stop",), (0, "keepers"), ("start",)), 2),
                              ((("stop",), ("start",), ("keepers",), ("stop",)), 3), ((("stop",), ("start",)), 1)):
            self.assertIs(is_change((SURE, LONG, stages, (at(1),) * waits)), False, stages)
        two_stores = [bent(plan, (5,), ((True, True), (True, False))) for plan in (SURE, LONG)]
        self.assertIs(is_change((two_stores[0], two_stores[1], TOGETHER, ())), False)


class RunsOf(unittest.TestCase):
    # An old ask, a switch and a start at these moments.
    def run_at(self, ask, switch, start, keepers=1):
        events = [(ask, (ME, at(ask), at(0), ("ask", 0)))]
        events += [(switch, (("keeper", k), at(switch), at(0), ("switch",))) for k in range(keepers)]
        events.append((start, (THEM, at(start), at(0), ("start",))))
        return tuple(event for _, event in sorted(events, key=lambda pair: pair[0]))

    def test_stages_at_their_border(self):
        for stages, waits, moments, told in (
                ((("stop",), ("start",), ("keepers",)), (3, 2), (0, 5, 3), True), ((("stop",), ("start",), ("keepers",)), (3, 2), (0, 5, 2), False),
                ((("stop",), ("start",), ("keepers",)), (3, 2), (0, 4, 3), False), ((("stop",), ("start",), ("keepers",)), (3, 2), (1, 5, 3), False),
                ((("stop",), ("start",), ("keepers",)), (0, 0), (4, 4, 4), True), ((("stop",), ("start",), ("keepers",)), (0, 0), (4, 4, 3), False),
                ((("keepers",), ("start", "stop")), (2,), (9, 0, 2), True), ((("keepers",), ("start", "stop")), (2,), (9, 1, 2), False),
                ((("keepers",), ("start", "stop")), (2,), (0, 0, 2), True), ((("start", "stop"), ("keepers",)), (2,), (9, 0, 0), False),
                ((("start", "stop"), ("keepers",)), (2,), (7, 9, 7), True), ((("start", "stop"), ("keepers",)), (2,), (8, 9, 7), False),
                ((("keepers",), ("stop",), ("start",)), (1, 2), (0, 0, 3), True), ((("keepers",), ("stop",), ("start",)), (1, 2), (1, 1, 3), False),
                ((("keepers",), ("stop",), ("start",)), (1, 2), (1, 0, 3), True), ((("keepers",), ("stop",), ("start",)), (1, 2), (2, 0, 3), False),
                (TOGETHER, (), (9, 9, 0), True)):
            run = self.run_at(*moments)
            change = (SURE, LONG, stages, tuple(at(wait) for wait in waits))
            self.assertTrue(is_run(change[:2], run))
            self.assertIs(is_run_of(change, run), told, (stages, waits, moments))

    def test_each_of_several_events(self):
        """The last of what comes first, and the first of what comes later, count."""
        change = (SURE, LONG, (("stop",), ("start",), ("keepers",)), (at(3), at(2)))
        for asks, starts, told in (((0, 3), (6, 9), True), ((0, 3), (5, 9), False), ((0, 4), (6, 9), False), ((0, 3), (6, 6), True)):
            events = [(moment, (ME, at(moment), at(moment), ("ask", lock))) for lock, moment in enumerate(asks)]
            events += [(moment, (("client", 1 + k), at(moment), at(0), ("start",))) for k, moment in enumerate(starts)]
            run = tuple(event for _, event in sorted(events, key=lambda pair: pair[0]))
            self.assertTrue(is_run(change[:2], run))
            self.assertIs(is_run_of(change, run), told, (asks, starts))

    def test_each_keeper_has_switched(self):
        two = ((((0, 1),), SURE[1] * 2) + SURE[2:], (((0,),), LONG[1] * 2) + SURE[2:4] + LONG[4:])
        change = two + ((("keepers",), ("start", "stop")), (at(2),))
        self.assertTrue(is_change(change))
        run = self.run_at(9, 0, 5, keepers=2)
        self.assertTrue(is_run_of(change, run))
        self.assertFalse(is_run_of(change, run[1:]))
        self.assertTrue(is_run_of(change, run[1:2] + run[3:]))
        self.assertTrue(is_run_of(change, ()))

    def test_who_goes_by_old(self):
        change = (SURE, LONG, (("stop",), ("keepers", "start")), (at(2),))
        start, switch = (THEM, at(4), at(0), ("start",)), (KEEP, at(4), at(0), ("switch",))
        for act, moment, told in ((("ask", 0), 2, True), (("ask", 0), 3, False), (("again", 0), 3, False), (("anew", 0), 3, False), (("look", 0), 3, True)):
            run = ((ME, at(0), at(0), ("ask", 0)), (ME, at(moment), at(moment), act) if act != ("ask", 0) else (ME, at(moment), at(moment), ("ask", 1)), start)
            self.assertTrue(is_run(change[:2], run))
            self.assertIs(is_run_of(change, run), told, act)
            self.assertIs(is_run_of(change, run[:2] + (switch,)), told, act)
        run = ((THEM, at(0), at(0), ("start",)), (THEM, at(9), at(9), ("ask", 0)), (KEEP, at(10), at(9), ("take", 1)))
        self.assertTrue(is_run_of(change, run))
        for thing in (None, list(run), run[1:] + ((THEM, at(10), at(10), ("start",)),), (run,), (5,)):
            self.assertIs(is_run_of(change, thing), False)


class Mixes(unittest.TestCase):
    def test_tie_by_tie(self):
        draw = random.Random(240)
        found = {}
        for k in range(80):
            change = a_change(draw, k % 2)
            self.assertTrue(is_change(change))
            for a, b in itertools.product(("old", "new"), repeat=2):
                for keeper in range(len(change[0][1])):
                    for mix in mixes(change, a, b, keeper):
                        many, ties = mix_web(change, mix)
                        self.assertEqual(many, 10)
                        self.assertEqual(sorted(ties), ties_again(change, mix))
                        key = (change[0][4][1], a, b) + mix[3]
                        found[key] = found.get(key, 0) + 1
        self.assertEqual(len(found), 32)

    def test_none_by_a_most_that_is_none(self):
        plan = changed(changed(changed(SURE, ("most", "ask"), None), ("most", "grant"), None), ("counts",), "taken")
        change = (plan, plan, TOGETHER, ())
        self.assertEqual(sorted(mix_web(change, ("old", "old", 0, ("lapse", "old")))[1]), sorted((
            (4, 3, at(-1)), (6, 7, at(-1)), (9, 4, at(-1)), (8, 6, at(-1)), (9, 8, at(0)), (0, 3, at(0)), (0, 7, at(0)), (6, 4, (-17, 2)), (2, 4, at(0)))))


class Crossings(unittest.TestCase):
    def check_late(self, change):
        run = late_run(change)
        self.assertTrue(is_run_of(change, run))
        self.assertIsNotNone(late_look(change[:2], run))
        self.assertLessEqual({house[1] for house, _, _, _ in run if house[0] == "client"}, {0, 1})

    def test_drawn(self):
        draw = random.Random(241)
        found = {True: 0, False: 0}
        for k in range(160):
            change = a_change(draw, k % 4)
            told = crossings(change)
            self.assertEqual(told, crossings_again(change))
            if told:
                self.check_late(change)
            else:
                with self.assertRaises(CanNot):
                    late_run(change)
            found[told == ()] += 1
            where = smooth_where(*change[:3])
            self.assertTrue(is_condition(len(change[3]), where))
            self.assertIs(holds(where, change[3]), told == ())
            for _ in range(4):
                waits = tuple(a_fraction(draw, 0, 20) for _ in change[3])
                self.assertIs(holds(where, waits), crossings(change[:3] + (waits,)) == ())
        self.assertGreater(min(found.values()), 30)

    def test_each_crossing(self):
        """Each open CROSSING has a RUN, but for LOTS without a keeper in common, of which the other way round does."""
        draw = random.Random(248)
        found = {}
        for k in range(120):
            change = a_change(draw, k % 3)
            told = crossings(change)
            for (a, lot), (b, other) in told:
                try:
                    run = Overtaking(Mixing(*change[:3]), change[3], (a, b)).run(lot, other)
                except CanNot:
                    self.assertFalse(set(lot) & set(other))
                    self.assertEqual((a, b), ("old", "new"))
                    self.assertIn(((b, other), (a, lot)), told)
                    continue
                self.assertTrue(is_run_of(change, run))
                early, late = late_look(change[:2], run)
                self.assertEqual((run[early][0], run[late][0]), (THEM, ME))
                starts = {house for house, _, _, act in run if act == ("start",)}
                self.assertEqual(starts, {house for house, side in ((ME, a), (THEM, b)) if side == "new"})
                key = (a, b, change[a == "new"][4][1], change[b == "new"][4][1])
                found[key] = found.get(key, 0) + 1
        self.assertGreater(min(found.values()), 5)
        self.assertEqual(len(found), 12)

    def test_smooth_where_at_the_border(self):
        draw = random.Random(242)
        found = 0
        for _ in range(150):
            change = a_change(draw)
            if len(change[3]) == 0:
                continue
            where = smooth_where(*change[:3])
            way = tuple(at(draw.randint(0, 2)) for _ in change[3])
            self.assertFalse(holds(where, (at(-1),) * len(change[3])))
            for low, with_low, high, _ in stretches(where, change[3], way):
                self.assertIsNone(high)
                if low is None or not with_low and low == at(0):
                    continue
                for t, told in ((low, with_low), (plus(low, (1, 1000)), True), (minus(low, (1, 1000)), False)):
                    waits = tuple(plus(wait, over(step, over(ONE, t))) if t != at(0) else wait for wait, step in zip(change[3], way))
                    if all(wait[0] >= 0 for wait in waits):
                        found += 1
                        self.assertIs(crossings(change[:3] + (waits,)) == (), told)
        self.assertGreater(found, 15)

    def test_of_the_document(self):
        for first, second in ((SURE, LONG), (LONG, SURE)):
            where = smooth_where(first, second, (("start", "stop"), ("keepers",)))
            for wait in (at(0), at(1), (199, 100), at(2), at(3), at(40)):
                change = (first, second, (("start", "stop"), ("keepers",)), (wait,))
                self.assertIs(holds(where, (wait,)), crossings(change) == ())
        self.assertEqual(mend(1, smooth_where(LONG, SURE, (("start", "stop"), ("keepers",))), (at(0),), ((ONE, None),))[:2], (at(2), (at(2),)))
        # Each is right by itself.
        self.assertTrue(is_right(LONG, 2, "looks") and is_right(SURE, 2, "looks"))
        self.check_late((SURE, LONG, TOGETHER, ()))

    def test_what_is_told_in_smooth_ones_is_plain(self):
        draw = random.Random(243)
        found = 0
        for _ in range(200):
            change = a_change(draw)
            if crossings(change) != ():
                continue
            player = Player(draw, change[:2], clients=3, locks=2)
            run = player.run(50)
            if not is_run_of(change, run):
                continue
            self.assertIsNone(late_look(change[:2], run))
            list_of(telling(change[:2], run))
            found += any(entry[0] == "told" for house, row in telling(change[:2], run) for entry in row if house[0] == "client")
        self.assertGreater(found, 3)

    def test_no_hold(self):
        none = changed(SURE, ("term",), ONE)
        apart = (((1,),), none[1] * 2) + none[2:], (((0,),), SURE[1] * 2) + SURE[2:]
        self.assertEqual(crossings(apart + (TOGETHER, ())), ())
        self.assertIs(holds(smooth_where(apart[0], apart[1], TOGETHER), ()), True)
        self.assertIs(holds(smooth_where(apart[1], apart[0], TOGETHER), ()), True)
        self.assertEqual(crossings((none, LONG, TOGETHER, ())), ((("new", (0,)), ("new", (0,))),))
        self.assertEqual(crossings((none, none, TOGETHER, ())), ())
        self.assertEqual(holds(smooth_where(none, none, TOGETHER), ()), True)
        with self.assertRaises(CanNot):
            late_run((none, none, TOGETHER, ()))

    def test_lots_without_a_keeper_in_common(self):
        old, new = ((((0,),), SURE[1] * 2) + SURE[2:], (((1,),), SURE[1] * 2) + SURE[2:])
        change = (old, new, TOGETHER, ())
        self.assertEqual(crossings(change), ((("new", (1,)), ("old", (0,))), (("old", (0,)), ("new", (1,)))))
        self.check_late(change)
        # So long a wait keeps a lesser old hold apart from a new one, but not the other way round.
        far = (old, new, (("stop",), ("keepers", "start")), (at(99),))
        self.assertEqual(crossings(far), ((("new", (1,)), ("old", (0,))), (("old", (0,)), ("new", (1,)))))
        self.check_late(far)

    def test_open_runs_are_of_the_change_to_itself(self):
        change = (LONE, LONE, TOGETHER, ())
        run = open_run(LONE, (0,), (0,), "look")
        self.assertTrue(is_run_of(change, run))
        self.assertEqual(late_look((LONE, LONE), run), late_look(LONE, run))


class Clauses(unittest.TestCase):
    """What smooth_where is put together of: some FORM below 0, of each of some tuples, at waits from 0."""

    def told(self, clauses, waits):
        return all(any(holds(("below", form), waits) for form in clause) for clause in clauses)

    def a_form(self, draw):
        return (a_fraction(draw, -1, 4, 2), at(-draw.randint(0, 2)), at(-draw.randint(0, 2)))

    def test_at_0(self):
        falling = (at(0), at(-1), at(0))
        self.assertFalse(self.told(clause_of([falling]), (at(0), at(0))))
        self.assertTrue(self.told(clause_of([falling]), ((1, 9), at(0))))
        self.assertTrue(self.told(clause_of([((-1, 9), at(-1), at(0))]), (at(0), at(0))))
        self.assertFalse(self.told(clause_of([]), (at(9), at(9))))
        self.assertFalse(self.told(clause_of([((1, 9), at(-1), at(0))]), (at(0), at(0))))

    def test_drawn(self):
        draw = random.Random(247)
        for _ in range(300):
            some, others = ([[self.a_form(draw) for _ in range(draw.randint(0, 3))] for _ in range(draw.randint(0, 3))] for _ in range(2))
            made = []
            for clauses in (some, others):
                found = HOLDS
                for clause in clauses:
                    found = both(found, clause_of(clause))
                made.append(found)
            for _ in range(6):
                waits = (a_fraction(draw, 0, 3, 2), a_fraction(draw, 0, 3, 2))
                wanted = [self.told(clauses, waits) for clauses in (some, others)]
                self.assertEqual([self.told(clauses, waits) for clauses in made], wanted)
                self.assertIs(self.told(both(*made), waits), all(wanted))
                self.assertIs(self.told(either(*made), waits), any(wanted))
                self.assertIs(self.told(either(FAILS, made[0]), waits), wanted[0])
                self.assertIs(self.told(either(HOLDS, made[0]), waits), True)


class Joint(unittest.TestCase):
    def test_field_by_field(self):
        draw = random.Random(244)
        for _ in range(50):
            old, new = a_change(draw, False)[:2]
            told = joint(old, new)
            self.assertTrue(is_plan(told))
            self.assertEqual(told[0], tuple(sorted({tuple(sorted({*lot, *other})) for lot in old[0] for other in new[0]})))
            for one, other, kept in zip(old[1], new[1], told[1]):
                self.assertEqual(kept[0], None if None in (one[0], other[0]) else greatest((one[0], other[0])))
                self.assertEqual(kept[1], "number" if (one[1], other[1]) == ("number", "number") else "all")
                self.assertEqual(kept[2], greatest((one[2], other[2])))
            self.assertEqual(told[4], ((new if less(new[4][0], old[4][0]) else old)[4][0], "sent" if "sent" in (old[4][1], new[4][1]) else "taken") + old[4][2:])
            self.assertEqual(told[2:4] + told[5:], old[2:4] + old[5:])

    def test_over_the_joint_all_is_smooth(self):
        draw = random.Random(245)
        found = 0
        for _ in range(300):
            old, new = a_change(draw)[:2]
            if is_right(old, 2, "looks") and is_right(new, 2, "looks"):
                found += 1
                middle = joint(old, new)
                for change in ((old, middle, TOGETHER, ()), (middle, new, TOGETHER, ())):
                    self.assertTrue(is_change(change))
                    self.assertEqual(crossings(change), ())
        self.assertGreater(found, 20)


class Calls(unittest.TestCase):
    def test_rules_for_every_function(self):
        change = (LONG, SURE, (("start", "stop"), ("keepers",)), (at(1),))
        smooth = change[:3] + ((at(2),),)
        for one in (change, smooth):
            check_call(self, is_change, ("thing",), (one,), things=(0,))
            check_call(self, crossings, ("change",), (one,))
            check_call(self, late_run, ("change",), (one,))
            check_call(self, mix_web, ("change", "mix"), (one, ("new", "old", 0, ("lapse", "new"))))
        check_call(self, is_run_of, ("change", "thing"), (change, late_run(change)), things=(1,))
        check_call(self, is_run_of, ("change", "thing"), (smooth, late_run(change)), things=(1,))
        check_call(self, smooth_where, ("old", "new", "stages"), change[:3])
        check_call(self, joint, ("old", "new"), (LONG, SURE))

    def test_at_the_bounds(self):
        draw = random.Random(246)
        lots = tuple(itertools.combinations(range(5), 3))[:8]
        for stages in STAGES[:3] + STAGES[5:6]:
            old, new = (a_plan(draw, keepers=5, faults=(), sealed=False, stores=((True, True),)) for _ in range(2))
            old = (lots,) + old[1:]
            new = (lots, new[1]) + old[2:4] + new[4:5] + old[5:]
            change = (old, new, stages, (at(3),) * (len(stages) - 1))
            where = smooth_where(old, new, stages)
            self.assertIs(holds(where, change[3]), crossings(change) == ())
            if crossings(change):
                self.check_late(change)

    check_late = Crossings.check_late


if __name__ == "__main__":
    unittest.main()
