"""[21]: WORLDS, LOGS and VIEWS."""

import fractions
import random
import unittest

from plainlock.errors import CanNot, NoPlace
from plainlock.fractions import greatest, less, minus, negative, over, plus, times
from plainlock.logs import sent_to
from plainlock.rings import farthest, is_schedule, schedule
from plainlock.views import age, has, is_log, is_view, is_world, rests_on, view_of, web_of_log
from tests.helping import ONE, at, bent, check_call, listed
from tests.worlds import LEGS, a_log, a_world, view_first

FREE = (ONE, None, False)
WORLD = ((((1, 2), ONE), (ONE, at(2))), (FREE,) * 4, ((True, at(0)),), (at(0), ONE), ((0,),))
# Two keepers, of which 1 forgets by a fall; letters to keepers and to clients are sure.
SURE = ((ONE, at(5), True), (at(2), at(7), True), (ONE, at(3), False), (ONE, at(4), True))
PAIR = (((ONE, ONE), (ONE, at(2))), SURE, ((True, at(1)), (False, at(4))), (at(0), ONE), ((0,), (0, 1)))
X, Y, K, L = ("client", 5), ("client", 6), ("keeper", 0), ("keeper", 1)
N, M = (1, 5), (1, 6)
ASKED = ((X, at(0), ("ask", 0, N)), (K, at(100), ("hear", 0)), (K, at(100), ("grant", N, at(150), None)))
VIEW = ASKED + ((X, at(4), ("hear", 2)), (X, at(6), ("look",)))


class Worlds(unittest.TestCase):
    def test_so(self):
        for thing in (WORLD, PAIR, bent(WORLD, (3,), (at(2), None)), bent(WORLD, (3,), (at(2), at(2))), bent(WORLD, (1, 0), (ONE, ONE, True))):
            self.assertIs(is_world(thing), True)

    def test_not_so(self):
        for path, new in (
                ((), None), ((), WORLD[:4]), ((), WORLD + (0,)), ((0,), WORLD[0][:1]), ((0, 0), (ONE, (1, 2))), ((0, 1), ((2, 2), at(2))),
                ((0,), listed(WORLD[0])), ((1,), (FREE,) * 3), ((1, 2), FREE[:2]), ((1, 2), (ONE, None, True)), ((1, 2), (ONE, None, 0)),
                ((1, 2), (at(0), None, False)), ((1, 2), (at(2), ONE, False)), ((1, 2), (ONE, ONE, 1)), ((1, 2), [ONE, None, False]),
                ((2,), ()), ((2,), ((True,),)), ((2,), ((1, at(0)),)), ((2,), ((True, (-1, 1)),)), ((2,), ((True, None),)), ((2,), [(True, at(0))]),
                ((3,), (at(1), at(0))), ((3,), (None, None)), ((3,), ((-1, 1), at(0))), ((3,), (at(0),)), ((4,), ()), ((4,), ((1,),)),
                ((4,), ((),)), ((4,), ((0,), (0,))), ((4,), ((0, 0),)), ((4,), ((True,),)), ((4,), ((False,),))):
            self.assertIs(is_world(bent(WORLD, path, new)), False, (path, new))


class Logs(unittest.TestCase):
    def check(self, log, told, world=PAIR):
        self.assertIs(is_log(world, log[:-1]), True, log[:-1])
        self.assertIs(is_log(world, log), told, log)

    def test_forms(self):
        for act in (("tell", Y), ("tell", K), ("look",), ("ask", 1, N), ("ask", 0, (0, 5))):
            self.check(((X, (-1, 2), act),), True)
        for act in (("tell", X), ("tell", ("keeper", 2)), ("tell", ("store", 0, 0)), ("tell", ("client", -1)), ("tell", 5), ("tell",), ("look", 0),
                    ("fall",), ("ask", 2, N), ("ask", 0), ("ask", 0, (1, True)), ("ask", False, N), ("grant", N, None, None), ("call", N), (),
                    ("release", 0), ["look"], "look", ("hear", -1), ("hear",), ("hear", True), ("wait",), None, ("renew", 0, N), ("grant", 0, N), ("fall",), ("call", 0, N)):
            self.check(((X, ONE, act),), False)
        for house, reading in ((("client",), ONE), (("keeper", 2), ONE), (("store", 0, 0), ONE), (["client", 5], ONE), (("client", True), ONE),
                               (X, None), (X, 1), (X, (2, 2)), (X, [1, 1]), (("client", "5"), ONE), (("store", 0), ONE), (("shop", 1), ONE), (5, ONE)):
            self.check(((house, reading, ("tell", Y)),), False)
        ask = ((X, ONE, ("ask", 1, N)), (L, at(9), ("hear", 0)))
        for act, told in ((("grant", N, None, None), True), (("grant", N, (-3, 1), at(0)), True), (("grant", N, at(1), at(2)), True),
                          (("grant", N, None), False), (("grant", N, None, (-1, 1)), False), (("grant", N, 3, None), False),
                          (("grant", N, None, None, None), False), (("grant", [1, 5], None, None), False), (("look",), False),
                          (("ask", 0, N), False), (("fall",), True), (("fall", 0), False), (("tell", L), False), (("tell", K), True), (("deny", N, None, None), False),
                          (("tell", ("shop", 1)), False), (("call",), False), (("renew", N), False)):
            self.check(ask + ((L, at(9), act),), told)
        granted = ask + ((L, at(9), ("grant", N, at(1), at(2))),)
        for act, told in ((("renew", N, at(2)), True), (("renew", N, 2), False), (("renew", N), False), (("renew", N, at(2), None), False),
                          (("renew", N, at(1)), True), (("call", N), True), (("call", N, None), False), (("call", (1, 6)), False)):
            self.check(granted + ((L, at(9), act),), told)
        one = ("client", 1)
        self.check(((one, ONE, ("ask", 0, (1, 1))),), True)
        self.check(((one, ONE, ("ask", 0, (1, True))),), False)
        self.check(((one, ONE, ("ask", 0, (1, 1, 1))),), False)
        for thing in (None, 5, "", list(ASKED), (X,), (None,), ((X, ONE),), ((X, ONE, ("look",), 0),)):
            self.assertIs(is_log(PAIR, thing), False)
        self.assertIs(is_log(PAIR, ()), True)
        self.assertIs(is_view(PAIR, ()), False)

    def test_a_readings_and_hearing(self):
        first = ((X, at(3), ("look",)), (Y, at(0), ("tell", X)), (X, at(3), ("hear", 1)))
        self.check(first, True)
        self.check(first + ((X, at(3), ("hear", 1)),), True)
        self.check(first + ((X, (29, 10), ("look",)),), False)
        self.check(first + ((Y, at(0), ("look",)),), True)
        self.check(first + ((Y, (-1, 10), ("look",)),), False)
        # what is not ahead, sends nothing, or sends it to another house
        for place in (3, 4, 0, 2, 99):
            self.check(first + ((X, at(3), ("hear", place)),), False)
        self.check(first + ((K, at(3), ("hear", 1)),), False)
        self.check(((X, ONE, ("ask", 0, N)), (L, ONE, ("hear", 0))), False)
        self.check(((X, ONE, ("ask", 0, N)), (K, ONE, ("hear", 0))), True)
        self.check(((X, ONE, ("hear", 0)),), False)

    def test_b_clients(self):
        ask = (X, at(0), ("ask", 0, N))
        self.check((ask, ask), True)
        self.check(((X, at(0), ("ask", 0, M)),), False)
        for log, told in (
                ((ask, (X, at(0), ("release", 0, N))), True), ((ask, (X, at(0), ("release", 1, N))), False),
                ((ask, (X, at(0), ("release", 0, (2, 5)))), False), ((ask, (Y, at(0), ("release", 0, N))), False),
                ((ask, (X, at(0), ("release", 0, N)), (X, at(0), ("release", 0, N))), False),
                ((ask, (X, at(0), ("release", 0, N)), ask, (X, at(0), ("release", 0, N))), False),
                ((ask, (X, at(0), ("release", 0, N)), (X, at(0), ("ask", 1, N)), (X, at(0), ("release", 1, N))), True),
                (((X, at(0), ("release", 0, N)),), False)):
            self.check(log, told)

    def test_c_grants(self):
        ask = ((X, at(0), ("ask", 0, N)), (Y, at(0), ("ask", 0, M)), (X, at(0), ("ask", 1, N)), (K, at(9), ("hear", 0)))
        grant = (K, at(9), ("grant", N, at(9), None))
        self.check(ask + (grant,), True)
        self.check(ask + ((K, at(9), ("grant", M, None, None)),), False)
        self.check(ask + ((L, at(9), ("grant", N, None, None)),), False)
        self.check(ask + (grant, (K, at(9), ("grant", N, None, None))), False)
        self.check(ask + (grant, (K, at(9), ("hear", 0)), (K, at(99), ("grant", N, None, None))), False)
        # a release that was heard ahead of its ask
        early = ((X, at(0), ("ask", 0, N)), (X, at(0), ("release", 0, N)), (K, at(0), ("hear", 1)))
        self.check(early + ((K, at(0), ("grant", N, None, None)),), False)
        self.check(early + ((K, at(0), ("hear", 0)), (K, at(0), ("grant", N, None, None)), (K, at(0), ("renew", N, None))), True)

    def granted(self, keeper, till, call, *acts):
        """A LOG in which a keeper grants N at the reading 10, and then these come to it, pairs of reading and act."""
        log = [(X, at(0), ("ask", keeper, N)), (Y, at(0), ("ask", keeper, M)), (X, at(0), ("release", keeper, N)), (X, at(0), ("tell", K))]
        house = ("keeper", keeper)
        log += [(house, at(10), ("hear", 0)), (house, at(10), ("hear", 1)), (house, at(10), ("grant", N, till, call))]
        for reading, act in acts:
            log.append((house, at(reading) if isinstance(reading, int) else reading, act))
        return tuple(log)

    def test_c_renews_and_calls(self):
        heard, fall, renew = (10, ("hear", 2)), (10, ("fall",)), (11, ("renew", N, at(20)))
        for keeper, till, call, acts, told in (
                (0, at(20), None, (renew,), True), (0, at(21), None, (renew,), False), (0, None, None, (renew,), False),
                (0, None, None, ((11, ("renew", N, None)),), True), (0, at(20), None, ((11, ("renew", N, None)),), False),
                (0, at(12), None, ((11, ("renew", N, at(15))), (11, ("renew", N, at(15)))), True),
                (0, at(12), None, ((11, ("renew", N, at(15))), (11, ("renew", N, at(14)))), False),
                (0, at(12), None, (heard, renew), False), (0, at(12), None, (fall, renew), True), (1, at(12), None, (fall, renew), False),
                (0, at(12), None, ((10, ("renew", M, at(20))),), False), (0, at(12), None, ((99, ("renew", N, at(13))),), True),
                (0, at(12), at(3), ((10, ("call", N)), (10, ("call", N))), True), (0, at(12), None, ((10, ("call", N)),), False),
                (0, at(12), at(3), ((10, ("call", M)),), False), (0, at(12), at(3), (heard, (10, ("call", N))), True),
                (1, at(12), at(3), (fall, (10, ("call", N))), True)):
            self.check(self.granted(keeper, till, call, *acts), told)
        for act in (("renew", N, None), ("call", N)):
            self.check(((K, at(0), act),), False)

    def test_d_what_is_over(self):
        heard, fall = (10, ("hear", 2)), (10, ("fall",))
        calls, later = (12, ("call", N)), (13, ("call", N))

        def next_one(reading):
            return (reading, ("grant", M, None, None))

        for keeper, till, call, acts, told in (
                (0, None, None, (next_one(99),), False), (0, None, None, (heard, next_one(10)), True),
                (0, at(15), None, (next_one(15),), True), (0, at(15), None, (next_one((149, 10)),), False),
                (0, at(15), None, ((11, ("renew", N, at(18))), next_one(17)), False), (0, at(15), None, ((11, ("renew", N, at(18))), next_one(18)), True),
                (0, None, at(3), (next_one(99),), False), (0, None, at(3), (calls, next_one(15)), True), (0, None, at(3), (calls, next_one(14)), False),
                (0, None, at(3), (calls, later, next_one(15)), True), (0, at(40), at(3), (calls, (12, ("renew", N, at(40))), next_one(39)), False),
                (0, at(40), at(3), (calls, (12, ("renew", N, at(40))), later, next_one(16)), True),
                (0, at(40), at(3), (calls, (12, ("renew", N, at(40))), later, next_one((159, 10))), False),
                (0, None, None, (fall, next_one(99)), False), (1, None, None, (fall, next_one(14)), True), (1, None, None, (fall, next_one(13)), False),
                (1, None, None, (fall, (12, ("fall",)), next_one(15)), False), (1, None, None, (fall, (12, ("fall",)), next_one(16)), True),
                (1, None, None, (heard, fall, next_one(13)), False), (1, at(11), None, (next_one(11),), True), (0, at(10), None, (fall, next_one(10)), True),
                (0, None, None, ((10, ("tell", X)), next_one(99)), False)):
            self.check(self.granted(keeper, till, call, *acts), told)
        # A release of an elder number ends nothing.
        elder = self.granted(0, at(15), None, (15, ("grant", M, None, None)), heard)
        elder = elder[:-1] + ((K, at(15), ("hear", 2)),)
        third = ((X, at(0), ("ask", 0, (2, 5))), (K, at(15), ("hear", len(elder))))
        self.check(elder + third + ((K, at(99), ("grant", (2, 5), None, None)),), False)
        # A fall ahead of the first grant counts for grace alone.
        first = ((X, at(0), ("ask", 1, N)), (Y, at(0), ("ask", 1, M)), (L, at(5), ("fall",)), (L, at(5), ("hear", 0)), (L, at(5), ("hear", 1)))
        self.check(first + ((L, at(8), ("grant", N, None, None)),), False)
        self.check(first + ((L, at(9), ("grant", N, None, None)),), True)
        self.check(first + ((L, at(9), ("grant", N, None, None)), (L, at(99), ("grant", M, None, None))), False)

    def test_drawn(self):
        draw = random.Random(210)
        for _ in range(60):
            world = a_world(draw)
            log, moments = a_log(draw, world, 40)
            self.assertTrue(is_log(world, log))
            self.assertTrue(is_schedule(web_of_log(world, log), moments))


class Webs(unittest.TestCase):
    def test_row_by_row(self):
        self.assertEqual(web_of_log(WORLD, VIEW), (5, (
            (2, 1, at(0)), (1, 2, at(0)), (3, 0, at(-4)), (0, 3, at(8)), (4, 3, at(-2)), (3, 4, at(4)), (1, 0, at(-1)), (3, 2, at(-1)))))
        self.assertEqual(web_of_log(WORLD, ()), (0, ()))

    def test_mosts_and_silence(self):
        log = ((X, at(0), ("ask", 0, N)), (X, at(1), ("ask", 1, N)), (K, at(4), ("hear", 0)), (K, at(4), ("grant", N, None, None)),
               (X, at(9), ("look",)), (X, at(9), ("tell", Y)), (K, at(4), ("tell", L)))
        ties = ((1, 0, at(-1)), (0, 1, ONE), (3, 2, at(0)), (2, 3, at(0)), (4, 1, at(-8)), (1, 4, at(8)), (5, 4, at(0)), (4, 5, at(0)),
                (6, 3, at(0)), (3, 6, at(0)), (2, 0, at(-1)), (0, 2, at(5)))
        # 3 goes to X by a sure leg; 1 and 6 to keeper 1, which has no place; 5 by one that is not sure.
        self.assertEqual(web_of_log(PAIR, log), (7, ties + ((3, 5, at(7)),)))
        more = log + ((L, at(0), ("fall",)), (Y, at(0), ("look",)))
        self.assertEqual(web_of_log(PAIR, more), (9, ties + ((1, 7, at(5)), (3, 5, at(7)), (6, 7, at(4)))))
        # Heard twice is heard; and one that was heard is not silent any more.
        twice = more + ((L, at(0), ("hear", 6)), (L, at(2), ("hear", 6)))
        self.assertEqual(web_of_log(PAIR, twice)[1], (
            ties[:10] + ((9, 7, at(0)), (7, 9, at(0)), (10, 9, at(-1)), (9, 10, at(2)), (2, 0, at(-1)), (0, 2, at(5)), (9, 6, at(-1)), (6, 9, at(4)),
                         (10, 6, at(-1)), (6, 10, at(4)), (1, 10, at(5)), (3, 5, at(7)))))

    def test_again_by_the_words(self):
        draw = random.Random(211)
        for _ in range(40):
            world = a_world(draw)
            log, _ = a_log(draw, world, 25)
            self.assertEqual(web_of_log(world, log), web_again(world, log))

    def test_each_schedule_goes_on(self):
        """A SCHEDULE of a VIEW is part of one of a LOG in which every letter on a sure leg is heard."""
        draw = random.Random(212)
        found = 0
        for _ in range(80):
            world = a_world(draw, sure=0.8)
            log, _ = a_log(draw, world, 14)
            view = view_of(log, len(log) - 1)
            moments = schedule(web_of_log(world, view))
            whole, now = all_heard(world, view, moments)
            self.assertTrue(is_log(world, whole))
            self.assertTrue(is_schedule(web_of_log(world, whole), now))
            found += len(whole) > len(view)
        self.assertGreater(found, 30)


def all_heard(world, view, moments):
    """A VIEW and its SCHEDULE, and behind them each letter on a sure leg heard that nobody heard."""
    heard = {act[1] for _, _, act in view if act[0] == "hear"}
    waiting = []
    for place, (house, _, _) in enumerate(view):
        goal = sent_to(view[place])
        if goal is not None and place not in heard and world[1][LEGS[house[0], goal[0]]][2]:
            least = plus(moments[place], world[1][LEGS[house[0], goal[0]]][0])
            own = [moments[here] for here, entry in enumerate(view) if entry[0] == goal]
            moment = greatest([least] + own[-1:])
            waiting.append((fractions.Fraction(*moment), place, goal, moment))
    whole, now = list(view), list(moments)
    for _, place, goal, moment in sorted(waiting):
        reading = at(0)
        for before, entry in enumerate(whole):
            if entry[0] == goal:
                slow = world[0][goal[0] == "keeper"][0]
                reading = plus(entry[1], times(slow, minus(moment, now[before])))
        whole.append((goal, reading, ("hear", place)))
        now.append(moment)
    return tuple(whole), tuple(now)


def web_again(world, log):
    clocks, legs = world[:2]
    kinds = {("client", "keeper"): 0, ("keeper", "client"): 1, ("client", "client"): 2, ("keeper", "keeper"): 3}
    one, two, three = [], [], []
    for b, (house, reading, act) in enumerate(log):
        ahead = [a for a in range(b) if log[a][0] == house]
        if ahead:
            slow, fast = clocks[house[0] == "keeper"]
            c = minus(reading, log[ahead[-1]][1])
            one += [(b, ahead[-1], negative(over(c, fast))), (ahead[-1], b, over(c, slow))]
        if act[0] == "hear":
            least, most, _ = legs[kinds[log[act[1]][0][0], house[0]]]
            two += [(b, act[1], negative(least))] + ([] if most is None else [(act[1], b, most)])
    for a, (house, _, act) in enumerate(log):
        if act[0] in ("look", "fall", "hear") or any(entry[2] == ("hear", a) for entry in log):
            continue
        goal = act[1] if act[0] == "tell" else ("keeper", act[1]) if act[0] in ("ask", "release") else ("client", act[1][1])
        places = [b for b, entry in enumerate(log) if entry[0] == goal]
        _, most, sure = legs[kinds[house[0], goal[0]]]
        if sure and places:
            three.append((a, places[-1], most))
    return (len(log), tuple(one + two + three))


class Views(unittest.TestCase):
    def test_rests_on(self):
        for place, told in enumerate(((0,), (0, 1), (0, 1, 2), (0, 1, 2, 3), (0, 1, 2, 3, 4))):
            self.assertEqual(rests_on(VIEW, place), told)
        log = ((Y, at(0), ("look",)), (X, at(0), ("look",)), (Y, at(0), ("tell", X)), (X, at(0), ("look",)), (X, at(0), ("hear", 2)), (Y, at(0), ("look",)))
        self.assertEqual([rests_on(log, place) for place in range(6)], [(0,), (1,), (0, 2), (1, 3), (0, 1, 2, 3, 4), (0, 2, 5)])
        self.assertEqual(view_of(log, 3), (log[1], log[3]))
        self.assertEqual(view_of(log, 4), log[:5])
        more = ((K, at(0), ("fall",)),) + log[:4] + ((X, at(0), ("hear", 3)), (X, at(0), ("look",)))
        self.assertEqual(rests_on(more, 6), (1, 2, 3, 4, 5, 6))
        self.assertEqual(view_of(more, 6), log[:5] + ((X, at(0), ("look",)),))

    def test_has(self):
        log = ((X, at(0), ("ask", 0, N)), (X, at(0), ("ask", 1, N)), (K, at(0), ("hear", 0)), (K, at(0), ("grant", N, at(9), None)),
               (L, at(0), ("hear", 1)), (L, at(0), ("grant", N, at(9), at(1))), (L, at(0), ("renew", N, at(9))), (L, at(0), ("call", N)),
               (X, at(0), ("hear", 7)), (X, at(0), ("hear", 6)), (X, at(0), ("hear", 3)), (X, at(0), ("release", 1, N)), (X, at(0), ("hear", 5)),
               (X, at(0), ("look",)), (Y, at(0), ("look",)))
        told = [has(log, place) for place in range(len(log))]
        self.assertEqual(told[8:], [(), (), ((1, N),), ((0, N), (1, N)), ((0, N),), ((0, N),), ()])
        self.assertEqual(set(told[:8]), {()})

    def test_views_of_drawn_logs(self):
        draw = random.Random(213)
        found = 0
        for _ in range(60):
            world = a_world(draw)
            log, moments = a_log(draw, world, 30)
            place = draw.randrange(len(log))
            places, view = rests_on(log, place), view_of(log, place)
            self.assertTrue(is_view(world, view))
            self.assertEqual([entry[:2] for entry in view], [log[at][:2] for at in places])
            self.assertEqual(rests_on(view, len(view) - 1), tuple(range(len(view))))
            self.assertEqual(view_of(view, len(view) - 1), view)
            whole, now = view_first(log, moments, places)
            self.assertTrue(is_log(world, whole))
            self.assertTrue(is_schedule(web_of_log(world, whole), now))
            self.assertTrue(is_schedule(web_of_log(world, view), now[:len(view)]))
            self.assertIs(is_view(world, log), len(rests_on(log, len(log) - 1)) == len(log))
            found += len(view) < len(log)
        self.assertGreater(found, 40)

    def test_is_view(self):
        self.assertTrue(is_view(WORLD, VIEW))
        self.assertFalse(is_view(WORLD, VIEW + ((Y, at(0), ("look",)),)))
        self.assertFalse(is_view(WORLD, VIEW[:3] + VIEW[4:]))
        self.assertFalse(is_view(WORLD, VIEW[1:]))
        self.assertFalse(is_view(WORLD, list(VIEW)))
        self.assertTrue(is_view(WORLD, VIEW[:1]))

    def test_ages(self):
        self.assertEqual([age(WORLD, VIEW, place) for place in range(5)], [at(12), at(11), at(11), at(4), at(0)])
        two = ((X, at(0), ("look",)), (Y, at(0), ("tell", X)), (X, at(0), ("hear", 1)))
        self.assertIsNone(age(WORLD, two, 1))
        self.assertEqual(age(bent(WORLD, (1, 2), (ONE, at(3), False)), two, 1), at(3))
        self.assertEqual(age(WORLD, two, 0), at(0))

    def test_age_errors(self):
        crooked = VIEW[:3] + ((X, ONE, ("hear", 2)),) + VIEW[4:]
        world = bent(WORLD, (0, 0), (ONE, ONE))
        self.assertTrue(is_view(world, crooked))
        with self.assertRaises(CanNot):
            age(world, crooked, 0)
        for place in (5, -1):
            with self.assertRaises(NoPlace) as caught:
                age(world, crooked, place)
            self.assertEqual(caught.exception.place, place)
            for call in (rests_on, view_of, has):
                with self.assertRaises(NoPlace) as caught:
                    call(VIEW, place)
                self.assertEqual(caught.exception.place, place)

    def test_ages_by_farthest(self):
        draw = random.Random(214)
        for _ in range(40):
            world = a_world(draw, sure=0.7)
            log, moments = a_log(draw, world, 25)
            view = view_of(log, len(log) - 1)
            places = rests_on(log, len(log) - 1)
            web = web_of_log(world, view)
            for place in range(len(view)):
                told = age(world, view, place)
                self.assertEqual(told, farthest(web, place, len(view) - 1))
                if told is not None:
                    self.assertFalse(less(told, minus(moments[-1], moments[places[place]])))


class Calls(unittest.TestCase):
    def test_rules_for_every_function(self):
        for log in (VIEW, VIEW[1:], list(VIEW)):
            check_call(self, is_log, ("world", "thing"), (WORLD, log), things=(1,))
            check_call(self, is_view, ("world", "thing"), (WORLD, log), things=(1,))
        check_call(self, is_world, ("thing",), (WORLD,), things=(0,))
        check_call(self, web_of_log, ("world", "log"), (PAIR, VIEW))
        for call in (rests_on, view_of, has):
            check_call(self, call, ("log", "place"), (VIEW, 4))
            check_call(self, call, ("log", "place"), (VIEW, 9))
        for place in (2, 9):
            check_call(self, age, ("world", "view", "place"), (WORLD, VIEW, place))

    def test_at_the_bounds(self):
        draw = random.Random(215)
        for _ in range(4):
            world = a_world(draw, keepers=5, sure=0.9)
            log, _ = a_log(draw, world, 40)
            view = view_of(log, len(log) - 1)
            for place in range(len(view)):
                age(world, view, place)


if __name__ == "__main__":
    unittest.main()
