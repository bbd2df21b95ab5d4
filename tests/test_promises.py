"""[22]: SLACK, FLOORS, sure looks, and LOGS that look the same."""

import itertools
import random
import unittest

from plainlock.errors import CanNot, NoPlace, Unfit
from plainlock.fractions import ZERO, less, minus, plus, times
from plainlock.promises import (
    chains, covered, endings, first_unsure, is_chains, is_cut, is_sure, is_worst, keepers_with, slack, surely_with, worst)
from plainlock.rings import is_schedule, schedule
from plainlock.views import age, has, is_log, is_view, rests_on, view_of, web_of_log
from tests.helping import ONE, at, bent, check_call, listed, outcome
from tests.worlds import a_log, a_world, view_first

FREE = (ONE, None, False)
WORLD = ((((1, 2), ONE), (ONE, at(2))), (FREE,) * 4, ((True, at(0)),), (at(0), ONE), ((0,),))
WORLD = bent(WORLD, (1, 1), (at(2), None, False))
X, Y, K, L = ("client", 5), ("client", 6), ("keeper", 0), ("keeper", 1)
N, M = (1, 5), (1, 6)
# Keeper 0 keeps, keeper 1 does not; all letters of keepers to clients are sure to come within 20.
PAIR = ((((1, 2), ONE), (ONE, at(2))), (FREE, (at(2), at(20), True), FREE, FREE), ((True, at(1)), (False, at(4))), (at(0), ONE), ((0,), (0, 1)))


def held(keeper, till, call, *acts):
    """A VIEW: the keeper grants N at its reading 100, does this, pairs of reading and act; the client hears the last grant or renew, and looks."""
    house = ("keeper", keeper)
    log = [(X, at(0), ("ask", keeper, N)), (house, at(100), ("hear", 0)), (house, at(100), ("grant", N, till, call))]
    log += [(house, at(reading), act) for reading, act in acts]
    last = [place for place, (_, _, act) in enumerate(log) if act[0] in ("grant", "renew")][-1]
    log += [(house, log[-1][1], ("tell", X)), (X, at(4), ("hear", last)), (X, at(4), ("hear", len(log))), (X, at(6), ("look",))]
    return tuple(log)


VIEW = ((X, at(0), ("ask", 0, N)), (K, at(100), ("hear", 0)), (K, at(100), ("grant", N, at(150), None)), (X, at(4), ("hear", 2)),
        (X, at(6), ("look",)))


class Slack(unittest.TestCase):
    def test_slack(self):
        for legs, flight, told in (
                (((1, 1), (1, 1)), (at(0), at(0)), at(1)), (((1, 1), (2, 1)), (at(0), at(1)), at(1)), (((1, 1), (2, 1)), (at(1), at(2)), at(1)),
                (((1, 1), (2, 1)), (at(0), (5, 2)), (-1, 2)), (((1, 1), (2, 1)), (at(0), at(3)), None),
                (((1, 1), (2, 1)), (at(0), (2999, 1000)), (-999, 1000)), (((1, 1), (2, 1)), (at(0), None), None),
                (((1, 2), (1, 3)), (at(3), at(3)), (1, 3)), (((1, 2), (1, 3)), (at(3), at(4)), None)):
            world = bent(bent(WORLD, (1,), ((legs[0], None, False), (legs[1], None, False), FREE, FREE)), (3,), flight)
            self.assertEqual(slack(world), told, (legs, flight))


class With(unittest.TestCase):
    """keepers_with and covered, by moments at the border."""

    STRANGER = VIEW[:4] + ((X, at(14), ("look",)), (Y, at(0), ("ask", 0, M)), (K, at(150), ("hear", 5)), (K, at(150), ("grant", M, None, None)))

    def moments(self, grant):
        return (at(-28), at(-27), at(-27), at(-20), at(0), minus(grant, at(2)), grant, grant)

    def test_at_the_border(self):
        for grant, told in ((at(-2), ()), (at(-1), ()), ((-999, 1000), (0,)), (at(0), (0,))):
            moments = self.moments(grant)
            self.assertTrue(is_schedule(web_of_log(WORLD, self.STRANGER), moments), grant)
            self.assertEqual(keepers_with(WORLD, self.STRANGER, moments, 4), told)
            self.assertIs(covered(WORLD, self.STRANGER, moments, 4), told == (0,))
            for place in (1, 2, 5, 6, 7):
                self.assertEqual(keepers_with(WORLD, self.STRANGER, moments, place), ())
                self.assertIs(covered(WORLD, self.STRANGER, moments, place), False)
            # At the hearing of the grant it HAS nothing yet.
            self.assertEqual(keepers_with(WORLD, self.STRANGER, moments, 3), ())

    def test_no_slack(self):
        world = bent(WORLD, (3,), (at(0), None))
        self.assertEqual(keepers_with(world, self.STRANGER, self.moments(at(0)), 4), ())
        self.assertIs(covered(world, self.STRANGER, self.moments(at(0)), 4), False)

    def test_newest_of_all_it_has(self):
        log = ((X, at(0), ("ask", 0, N)), (X, at(0), ("ask", 0, (2, 5))), (K, at(0), ("hear", 0)), (K, at(0), ("hear", 1)),
               (K, at(0), ("grant", N, at(0), None)), (K, at(0), ("grant", (2, 5), at(9), None)), (X, at(2), ("hear", 4)), (X, at(2), ("look",)),
               (X, at(2), ("hear", 5)), (X, at(2), ("look",)), (X, at(2), ("release", 0, (2, 5))), (X, at(2), ("look",)))
        moments = (at(0), at(0), at(1), at(1), at(1), at(1), at(4), at(4), at(4), at(4), at(4), at(4))
        self.assertTrue(is_schedule(web_of_log(WORLD, log), moments))
        self.assertEqual([keepers_with(WORLD, log, moments, place) for place in (7, 9, 11)], [(), (0,), ()])

    def test_lots(self):
        log = held(0, None, None)
        moments = schedule(web_of_log(PAIR, log))
        for lots, told in ((((0,),), True), (((0, 1),), False), (((1,),), False), (((0, 1), (1,)), False), (((0, 1), (0,)), True)):
            self.assertIs(covered(bent(PAIR, (4,), tuple(sorted(lots))), log, moments, len(log) - 1), told)

    def test_errors_in_their_order(self):
        wrong = bent(self.moments(at(0)), (4,), at(-40))
        for moments, place, told in ((wrong, 8, "NoPlace"), (wrong, -1, "NoPlace"), (wrong, 4, "Unfit"), (wrong, 1, "Unfit"), (wrong[:7], 4, "Unfit"),
                                     ((), 4, "Unfit"), (self.moments(at(0)), 8, "NoPlace")):
            for call in (keepers_with, covered):
                self.assertIn(told, outcome(call, WORLD, self.STRANGER, moments, place))

    def test_in_drawn_logs(self):
        """If each two LOTS have a keeper in common, what looks of unlike clients let is done in the order of a keeper's grants."""
        draw = random.Random(220)
        found = 0
        for _ in range(2500):
            world = a_world(draw, keepers=1, kept=((True, ZERO),), flight=(at(0), at(0)))
            log, moments = a_log(draw, world, 30)
            looks = [place for place, (_, _, act) in enumerate(log) if act == ("look",) and has(log, place)]
            looks = [place for place in looks if covered(world, log, moments, place)]
            for one, other in itertools.combinations(looks, 2):
                if log[one][0] != log[other][0]:
                    found += 1
                    places = [newest_grant(log, place) for place in (one, other)]
                    first = less(moments[one], moments[other]) or moments[one] == moments[other]
                    self.assertTrue(places[0] < places[1] if first else places[1] < places[0])
        self.assertGreater(found, 3)


def newest_grant(log, place):
    had = has(log, place)
    return max(at for at, (house, _, act) in enumerate(log) if act[0] == "grant" and (house[1], act[1]) in had)


class Endings(unittest.TestCase):
    def test_floor_by_floor(self):
        heard_release = held(0, at(150), at(3)) + ((X, at(6), ("release", 0, N)), (K, at(120), ("hear", 7)), (K, at(121), ("tell", X)), (X, at(9), ("hear", 9)))
        grant, fall, call = at(150), (102, ("fall",)), (104, ("call", N))
        for view, keeper, told in (
                (held(0, grant, None), 0, (((3, at(25)),),)), (held(0, at(90), None), 0, (((3, at(0)),),)), (held(0, None, None), 0, ()),
                (held(0, grant, None, (110, ("renew", N, at(160)))), 0, (((4, at(25)),),)),
                (held(0, grant, at(3)), 0, (((3, at(25)),), ((3, (3, 2)), (6, (-37, 2))))),
                (held(0, None, at(30)), 0, (((3, at(15)), (6, at(-5))),)), (held(0, None, at(3), call), 0, (((4, (3, 2)),),)),
                (held(0, None, at(3), call, (106, ("call", N))), 0, (((5, (1, 2)),),)),
                (held(0, grant, at(3), call, (106, ("renew", N, grant))), 0, (((5, at(22)),), ((5, (3, 2)), (8, (-37, 2))))),
                (held(0, grant, at(3), fall), 0, (((4, at(24)),), ((4, (3, 2)), (7, (-37, 2))))),
                (held(1, grant, None), 1, (((3, at(25)),), ((3, at(2)),))), (held(1, None, None), 1, (((3, at(2)),),)),
                (held(1, None, None, fall), 1, (((4, at(0)), (4, at(2))),)), (held(1, grant, at(3), fall), 1, (((4, at(0)), (4, at(2))),)),
                (held(1, None, None, fall, (104, ("fall",)), (105, ("tell", Y))), 1, (((6, at(0)), (6, (3, 2))),)),
                (held(1, None, None, fall, (109, ("tell", Y))), 1, (((5, at(0)), (5, at(0))),)), (heard_release, 0, (((9, at(0)),),))):
            self.assertTrue(is_view(PAIR, view), view)
            self.assertEqual(endings(PAIR, view, keeper), told, view)

    def test_fallen_ahead_of_the_grant(self):
        view = ((X, at(0), ("ask", 1, N)), (L, at(95), ("fall",)), (L, at(99), ("hear", 0)), (L, at(99), ("grant", N, at(150), at(1))),
                (L, at(99), ("call", N)), (X, at(4), ("hear", 3)), (X, at(4), ("hear", 4)), (X, at(6), ("look",)))
        self.assertTrue(is_view(PAIR, view))
        self.assertEqual(endings(PAIR, view, 1), (((4, (51, 2)), (4, at(0))), ((4, (1, 2)), (4, at(0))), ((4, at(2)), (4, at(0)))))

    def test_call_by_legs_that_are_not_sure(self):
        world = bent(PAIR, (1, 1), (at(2), at(7), False))
        self.assertEqual(endings(world, held(0, None, at(30)), 0), (((3, at(15)),),))
        # The client of the NUMBER has no place: nothing tells when it heard.
        view = ((Y, at(0), ("tell", K)), (K, at(0), ("hear", 0)))
        self.assertTrue(is_view(PAIR, view))
        other = ((Y, at(0), ("ask", 0, M)), (K, at(0), ("hear", 0)), (K, at(0), ("grant", M, None, at(30))), (K, at(0), ("tell", X)), (X, at(0), ("hear", 3)))
        self.assertEqual(endings(PAIR, other, 0), (((3, at(15)), (0, at(-5))),))

    def test_errors_in_their_order(self):
        for view in (VIEW[:3], VIEW[:2]):
            for call in (endings, chains, lambda world, view, keeper: is_chains(world, view, keeper, ())):
                self.assertEqual(outcome(call, WORLD, view, 1), repr(("NoPlace", {"place": 1})))
                self.assertIn("CanNot", outcome(call, WORLD, view, 0))
            for call in (surely_with, is_sure, worst, first_unsure, lambda world, view: is_cut(world, view, (0, at(1))),
                         lambda world, view: is_worst(world, view, ())):
                self.assertIn("CanNot", outcome(call, WORLD, view))
        crooked = VIEW[:3] + ((X, ONE, ("hear", 2)), (X, ONE, ("look",)))
        for call in (surely_with, is_sure, worst, first_unsure):
            self.assertIn("CanNot", outcome(call, bent(WORLD, (0, 0), (ONE, ONE)), crooked))
        for call in (endings, chains):
            self.assertIn("CanNot", outcome(call, bent(WORLD, (0, 0), (ONE, ONE)), crooked, 0))
            self.assertIn("NoPlace", outcome(call, bent(WORLD, (0, 0), (ONE, ONE)), crooked, -1))
            self.assertIn("Unfit", outcome(call, PAIR, held(0, None, None), 1))
            self.assertIn("Unfit", outcome(call, WORLD, VIEW[:1], 0))
        self.assertIn("Unfit", outcome(chains, WORLD, bent(VIEW, (4, 1), at(30)), 0))
        self.assertEqual(endings(WORLD, bent(VIEW, (4, 1), at(30)), 0), (((2, at(25)),),))


class Cuts(unittest.TestCase):
    def test_at_the_border(self):
        # The AGE of place 2 is 12 less the least of the ask's leg; SLACK is 1.
        self.assertEqual((slack(WORLD), age(WORLD, VIEW, 2)), (ONE, at(11)))
        for number, told in ((at(10), False), ((10001, 1000), True), (at(11), True), ((-5, 1), False)):
            self.assertIs(is_cut(WORLD, VIEW, (2, number)), told)
        self.assertIs(is_cut(WORLD, VIEW, (4, at(-1))), False)
        self.assertIs(is_cut(WORLD, VIEW, (4, at(0))), True)
        self.assertIs(is_cut(bent(WORLD, (3,), (at(0), at(9))), VIEW, (2, at(999))), False)

    def test_no_age(self):
        view = ((Y, at(0), ("tell", X)), (X, at(0), ("hear", 0)))
        self.assertIs(is_cut(WORLD, view, (0, at(10 ** 9))), False)

    def test_surely_with_at_the_border(self):
        for reading, told in ((at(6), (0,)), ((13499, 1000), (0,)), ((27, 2), ()), (at(99), ())):
            view = bent(VIEW, (4, 1), reading)
            self.assertEqual(surely_with(WORLD, view), told)
            self.assertIs(is_sure(WORLD, view), told == (0,))
        self.assertEqual(surely_with(WORLD, VIEW[:4]), ())
        self.assertEqual(surely_with(WORLD, bent(VIEW, (2, 2, 2), None)), (0,))
        self.assertEqual(surely_with(bent(WORLD, (3,), (at(0), None)), VIEW), ())
        self.assertEqual(surely_with(WORLD, VIEW + ((X, at(6), ("release", 0, N)), (X, at(6), ("look",)))), ())

    def test_lots(self):
        view = held(0, None, None)
        self.assertEqual(surely_with(PAIR, view), (0,))
        for lots, told in ((((0,), (0, 1)), True), (((0, 1),), False), (((1,),), False)):
            self.assertIs(is_sure(bent(PAIR, (4,), lots), view), told)


class Chains(unittest.TestCase):
    def test_bent(self):
        told = chains(WORLD, VIEW, 0)
        self.assertEqual(len(told), 1)
        j, chain = told[0]
        self.assertTrue(is_chains(WORLD, VIEW, 0, told))
        for thing in ((), told + told, list(told), listed(told), (chain,), ((1, chain),), ((j, chain[1:]),), ((j, ()),), ((j, list(chain)),),
                      ((True, chain),), ((False, chain),), ((-1, chain),), ((j, chain, 0),), None, ((j, chain + chain),), ((j, chain[::-1]),)):
            self.assertIs(is_chains(WORLD, VIEW, 0, thing), False, thing)
        late = bent(VIEW, (4, 1), (27, 2))
        self.assertIs(is_chains(WORLD, late, 0, told), False)
        self.assertIs(is_chains(WORLD, bent(VIEW, (4, 1), at(13)), 0, told), True)
        # A longer way around that is short enough is one as well.
        web = web_of_log(WORLD, VIEW)
        ring = [place for place, tie in enumerate(web[1]) if set(tie[:2]) == {3, 4}]
        self.assertIs(is_chains(WORLD, VIEW, 0, ((j, chain + tuple(sorted(ring))),)), True)
        self.assertIs(is_chains(WORLD, VIEW, 0, ((j, chain + tuple(sorted(ring)) * 40),)), False)
        self.assertEqual(chains(WORLD, bent(VIEW, (2, 2, 2), None), 0), ())
        self.assertIs(is_chains(WORLD, bent(VIEW, (2, 2, 2), None), 0, ()), True)
        self.assertIs(is_chains(PAIR, VIEW[:1], 1, ()), False)


class Worst(unittest.TestCase):
    def check(self, world, view):
        log, moments = worst(world, view)
        last = len(view) - 1
        self.assertTrue(is_log(world, log))
        self.assertEqual(log[:last + 1], view)
        self.assertTrue(is_schedule(web_of_log(world, log), moments))
        self.assertEqual(keepers_with(world, log, moments, last), surely_with(world, view))
        self.assertTrue(is_worst(world, view, (log, moments)))
        return log, moments

    def test_each_kind_of_ending(self):
        fall, call = (102, ("fall",)), (104, ("call", N))
        quiet = bent(PAIR, (1, 1, 2), False)
        for view, many in ((held(0, at(100), None), 3), (held(0, None, at(3)), 4), (held(0, at(999), at(3), call), 3), (held(1, None, None), 4),
                           (held(1, at(999), None, fall), 3), (held(0, None, None), 0), (held(0, at(999), None), 0)):
            for world in (PAIR, quiet):
                view = bent(view, (len(view) - 1, 1), at(10))
                log, _ = self.check(world, view)
                self.assertEqual(len(log) - len(view), many, view)
        fallen = ((X, at(0), ("ask", 1, N)), (L, at(95), ("fall",)), (L, at(99), ("hear", 0)), (L, at(99), ("grant", N, at(999), at(1))),
                  (X, at(4), ("hear", 3)), (X, at(10), ("look",)))
        for leg in ((at(2), at(20), True), (at(2), at(20), False), (at(2), None, False)):
            log, _ = self.check(bent(PAIR, (1, 1), leg), fallen)
            self.assertEqual([act[0] for _, _, act in log[6:]], ["ask", "call", "hear", "grant"])
        released = VIEW + ((X, at(6), ("release", 0, N)), (X, at(6), ("look",)))
        self.assertEqual(self.check(WORLD, released)[0], released)
        self.assertEqual(self.check(bent(WORLD, (3,), (at(0), None)), VIEW)[0], VIEW)

    def test_letters_that_have_to_be_heard(self):
        world = bent(PAIR, (1,), ((ONE, at(3), True), (at(2), at(7), True), FREE, (ONE, ONE, True)))
        view = held(0, at(160), None)
        view = view[:-1] + ((X, at(6), ("ask", 0, (2, 5))), (X, at(6), ("release", 0, (2, 5))), (X, at(40), ("look",)))
        self.assertTrue(is_view(world, view))
        log, _ = self.check(world, view)
        self.assertEqual(sorted(act[1] for _, _, act in log[len(view):] if act[0] == "hear"), [6, 7, 9])

    def test_letters_heard_in_their_order(self):
        """Letters to the keeper, from clients and from another keeper, that come in an order of their own."""
        world = bent(PAIR, (1,), ((ONE, at(3), True), (at(2), at(20), True), FREE, (ONE, at(2), True)))
        z = ("client", 1)
        view = ((X, at(0), ("ask", 0, N)), (K, at(100), ("hear", 0)), (K, at(100), ("grant", N, at(160), None)), (X, at(4), ("hear", 2)),
                (X, at(7), ("tell", K)), (Y, at(0), ("tell", K)), (Y, at(0), ("tell", X)), (X, at(8), ("hear", 6)), (L, at(0), ("tell", K)),
                (L, at(1), ("tell", X)), (X, at(8), ("hear", 9)), (z, at(0), ("tell", K)), (z, at(0), ("tell", X)), (X, at(8), ("hear", 12)), (X, at(50), ("look",)))
        self.assertTrue(is_view(world, view))
        log, moments = self.check(world, view)
        heard = [(place, act[1]) for place, (house, _, act) in enumerate(log) if place >= len(view) and act[0] == "hear"]
        self.assertEqual(sorted(place for _, place in heard[:-1]), [4, 5, 8, 11])
        self.assertEqual([moments[place] for place, _ in heard], sorted((moments[place] for place, _ in heard), key=lambda x: x[0] / x[1]))

    def test_drawn(self):
        draw = random.Random(221)
        found = {}
        for _ in range(900):
            world = a_world(draw)
            log, moments = a_log(draw, world, draw.randint(10, 40))
            looks = [place for place, (house, _, _) in enumerate(log) if house[0] == "client" and has(log, place)]
            for place in looks[-2:]:
                view = view_of(log, place)
                sure = surely_with(world, view)
                whole, now = view_first(log, moments, rests_on(log, place))
                # Nobody is surely with it who is not with it here.
                self.assertLessEqual(set(sure), set(keepers_with(world, whole, now, len(view) - 1)))
                self.assertEqual(keepers_with(world, whole, now, len(view) - 1), keepers_with(world, log, moments, place))
                more = len(self.check(world, view)[0]) - len(view)
                found[(bool(sure), more)] = found.get((bool(sure), more), 0) + 1
                for keeper in sure:
                    self.assertTrue(is_chains(world, view, keeper, chains(world, view, keeper)))
        self.assertGreater(found[(True, 0)], 30)
        for more in (3, 4):
            self.assertGreater(found[(False, more)], 20)

    def test_bent(self):
        late = bent(VIEW, (4, 1), (27, 2))
        log, moments = worst(WORLD, late)
        for thing in ((log, moments[:-1]), (log, bent(moments, (7,), at(0))), (log[:-1], moments[:-1]), (late, moments[:5]), (list(log), moments), (log,),
                      (log, list(moments)), [log, moments], (log, moments, 0), None, (bent(log, (0, 1), at(-1)), moments), (log[1:], moments[1:])):
            self.assertIs(is_worst(WORLD, late, thing), False, thing)
        # A grant of what nobody asked for is in no LOG.
        unasked = late + ((K, at(150), ("grant", (1, 6), None, None)),)
        self.assertTrue(is_schedule(web_of_log(WORLD, unasked), moments[:5] + moments[7:]))
        self.assertIs(is_worst(WORLD, late, (unasked, moments[:5] + moments[7:])), False)
        # Where the keeper is surely with it, nobody else can be there.
        self.assertIs(is_worst(WORLD, VIEW, (VIEW, schedule(web_of_log(WORLD, VIEW)))), True)
        self.assertIs(is_worst(WORLD, late, (late, schedule(web_of_log(WORLD, late)))), False)


class FirstUnsure(unittest.TestCase):
    def check(self, world, view):
        """The least reading by the words: sure or no VIEW that FITS ahead of it, not sure there."""
        told = first_unsure(world, view)
        house, reading, _ = view[-1]

        def judge(now):
            return outcome(is_sure, world, view + ((house, now, ("look",)),))

        if told is None:
            for growth in (at(0), ONE, at(50), at(10 ** 6)):
                self.assertNotEqual(judge(plus(reading, growth)), "False")
            return told
        self.assertFalse(less(told, reading))
        self.assertEqual(judge(told), "False")
        for share in ((0, 1), (1, 2), (999999, 1000000)):
            if told != reading:
                self.assertEqual(judge(plus(reading, times(share, minus(told, reading)))), "True")
        return told

    def test_at_once_later_never(self):
        self.assertEqual(self.check(WORLD, VIEW), (27, 2))
        self.assertEqual(self.check(WORLD, VIEW[:4]), (27, 2))
        self.assertEqual(self.check(WORLD, bent(VIEW, (4, 1), at(15))), at(15))
        self.assertIsNone(self.check(WORLD, bent(VIEW, (2, 2, 2), None)))
        self.assertEqual(self.check(bent(WORLD, (3,), (at(0), None)), VIEW), at(6))
        self.assertEqual(self.check(WORLD, VIEW[:1]), at(0))
        self.assertEqual(self.check(bent(WORLD, (4,), ((0,),)), VIEW + ((X, at(6), ("release", 0, N)),)), at(6))

    def test_where_it_fits_no_more(self):
        # What the keeper tells the client comes within 7: who looked so late must have heard it.
        world = bent(WORLD, (1, 1), (at(2), at(7), True))
        view = VIEW[:3] + ((K, at(100), ("call", N)),) + VIEW[3:]
        view = bent(view, (2, 2, 3), at(30))
        self.assertTrue(is_view(world, view[:3] + view[4:]))
        shown = view[:3] + ((K, at(100), ("renew", N, at(150))), (K, at(100), ("tell", X)), (X, at(4), ("hear", 4)), (X, at(4), ("hear", 2)))
        self.assertTrue(is_view(world, shown))
        self.check(world, shown)
        self.assertIsNone(first_unsure(world, shown))

    def test_drawn(self):
        draw = random.Random(222)
        found = {"now": 0, "later": 0, "never": 0}
        for _ in range(900):
            world = a_world(draw, sure=0.6)
            log, _ = a_log(draw, world, draw.randint(8, 36))
            looks = [place for place, (house, _, _) in enumerate(log) if house[0] == "client" and has(log, place)]
            for place in looks[-2:]:
                view = view_of(log, place)
                told = self.check(world, view)
                found["never" if told is None else "now" if told == view[-1][1] else "later"] += 1
        self.assertGreater(min(found.values()), 10, found)


class Calls(unittest.TestCase):
    def test_rules_for_every_function(self):
        late = bent(VIEW, (4, 1), (27, 2))
        pair = worst(WORLD, late)
        check_call(self, slack, ("world",), (WORLD,))
        for place in (4, 9):
            for call in (keepers_with, covered):
                check_call(self, call, ("world", "log", "schedule", "place"), (WORLD,) + pair + (place,))
                check_call(self, call, ("world", "log", "schedule", "place"), (WORLD, pair[0], pair[1][1:], place))
        for view in (VIEW, late, VIEW[:3]):
            for keeper in (0, 1):
                check_call(self, endings, ("world", "view", "keeper"), (WORLD, view, keeper))
                check_call(self, chains, ("world", "view", "keeper"), (WORLD, view, keeper))
            check_call(self, is_cut, ("world", "view", "floor"), (WORLD, view, (2, at(10))))
            for call in (surely_with, is_sure, worst, first_unsure):
                check_call(self, call, ("world", "view"), (WORLD, view))
            check_call(self, is_worst, ("world", "view", "thing"), (WORLD, view, pair), things=(2,))
            check_call(self, is_chains, ("world", "view", "keeper", "thing"), (WORLD, view, 0, chains(WORLD, VIEW, 0)), things=(3,))

    def test_at_the_bounds(self):
        draw = random.Random(223)
        found = 0
        for _ in range(40):
            world = a_world(draw, keepers=5, sure=0.8)
            log, _ = a_log(draw, world, 40)
            looks = [place for place, (house, _, _) in enumerate(log) if house[0] == "client" and has(log, place)]
            for place in looks[-1:]:
                view = view_of(log, place)
                self.assertTrue(is_worst(world, view, worst(world, view)))
                first_unsure(world, view)
                found += 1
        self.assertGreater(found, 5)


if __name__ == "__main__":
    unittest.main()
