"""[6]: WEBS, SCHEDULES, CHAINS, RINGS."""

import itertools
import random
import time
import unittest

from plainlock.errors import CanNot, NoPlace, Unfit
from plainlock.fractions import fraction, less, minus, plus
from plainlock.rings import (
    chain, drawn, farthest, is_chain, is_ring, is_schedule, is_web, length, ring, schedule, stretched, tied)
from tests.helping import check_call

ZERO, ONE = (0, 1), (1, 1)
WEB = (3, ((0, 1, (5, 1)), (1, 0, (-2, 1)), (1, 2, (3, 1)), (2, 1, (-1, 1))))
SHUT = (3, WEB[1] + ((0, 2, (2, 1)),))
FAR = ((0, 1), (1, 2), (3, 1), (50, 1))


def minus_one(x):
    return (-x[0], x[1])


def random_web(chance, most_points, most_ties, low):
    many = chance.randint(0, most_points)
    ties = []
    for _ in range(chance.randint(0, most_ties) if many else 0):
        ties.append((chance.randrange(many), chance.randrange(many), fraction(chance.randint(low, 12), chance.randint(1, 4))))
    return (many, tuple(ties))


def shortest(web, x):
    """The least lengths of the CHAINS from x by trying all longer and longer ones; None without one."""
    many, ties = web
    found = [None] * many
    found[x] = ZERO
    for _ in range(many):
        for a, b, most in ties:
            if found[a] is not None and (found[b] is None or less(plus(found[a], most), found[b])):
                found[b] = plus(found[a], most)
    return found


def has(call, *given):
    try:
        return call(*given)
    except CanNot:
        return None


class Forms(unittest.TestCase):
    def test_is_web(self):
        for thing in (WEB, SHUT, (0, ()), (5, ()), (1, ((0, 0, (-1, 2)),)), (10 ** 30, ()), (2, ((0, 1, ONE), (0, 1, ONE)))):
            self.assertIs(is_web(thing), True, thing)
        wrong = [
            [], (), None, True, 3, "", (3,), (3, (), ()), [3, ()], (3, []), (-1, ()), (True, ()), (None, ()), ((3, 1), ()), ("3", ()),
            (3, ((0, 1),)), (3, ((0, 1, ONE, ONE),)), (3, ([0, 1, ONE],)), (3, ((0, 3, ONE),)), (3, ((3, 0, ONE),)),
            (3, ((-1, 0, ONE),)), (3, ((0, -1, ONE),)), (3, ((True, 0, ONE),)), (3, ((0, True, ONE),)), (3, ((0, 1, 1),)),
            (3, ((0, 1, (2, 2)),)), (3, ((0, 1, [1, 1]),)), (3, ((0, 1, None),)), (0, ((0, 0, ONE),)), (3, (0, 1, ONE)), (3, None),
        ]
        for thing in wrong:
            self.assertIs(is_web(thing), False, thing)

    def test_is_schedule(self):
        for thing in ((ZERO, (2, 1), (9, 2)), (ZERO, (2, 1), (5, 1)), (ZERO, (5, 1), (6, 1)), ((-7, 3), ONE, (2, 1))):
            self.assertIs(is_schedule(WEB, thing), True, thing)
        wrong = [
            (ZERO, (2, 1), (51, 10)), (ZERO, (19, 10), (4, 1)), (ZERO, (51, 10), (7, 1)), (ZERO, (2, 1), (29, 10)), (ZERO, (2, 1)),
            (ZERO, (2, 1), (9, 2), ZERO), [ZERO, (2, 1), (9, 2)], ([0, 1], (2, 1), (9, 2)), (ZERO, (4, 2), (9, 2)), (0, 2, 4),
            (None, (2, 1), (9, 2)), (), None, True, "012", (ZERO, (2, True), (9, 2)),
        ]
        for thing in wrong:
            self.assertIs(is_schedule(WEB, thing), False, thing)
        self.assertIs(is_schedule((0, ()), ()), True)
        self.assertIs(is_schedule((0, ()), (ZERO,)), False)
        self.assertIs(is_schedule((1, ((0, 0, ZERO),)), (ONE,)), True)
        self.assertIs(is_schedule((1, ((0, 0, (-1, 9)),)), (ONE,)), False)

    def test_is_chain(self):
        for x, y, thing in ((0, 0, ()), (2, 2, ()), (0, 1, (0,)), (0, 2, (0, 2)), (0, 0, (0, 1)), (0, 0, (0, 1, 0, 1)), (2, 0, (3, 1))):
            self.assertIs(is_chain(WEB, x, y, thing), True, (x, y, thing))
        wrong = [
            (0, 1, ()), (0, 1, (1,)), (0, 2, (0,)), (1, 2, (0, 2)), (0, 1, [0]), (0, 1, (True,)), (1, 0, (True,)), (0, 1, (4,)),
            (0, 1, (-4,)), (0, 1, (None,)), (0, 1, 0), (0, 1, None), (0, 1, True), (0, 1, "0"), (0, 1, ("0",)), (0, 0, []),
            (0, 2, (0, 3)), (0, 1, ((0,),)), (0, 2, (0, 2, 3)), (0, 0, (0,)),
        ]
        for x, y, thing in wrong:
            self.assertIs(is_chain(WEB, x, y, thing), False, (x, y, thing))

    def test_is_ring(self):
        for thing in ((4, 3, 1), (3, 1, 4), (1, 4, 3), (4, 3, 1, 4, 3, 1), (0, 1, 4, 3, 1, 4, 3, 1, 4, 3, 1, 4, 3, 1)):
            self.assertIs(is_ring(SHUT, thing), True, thing)
        wrong = [
            (), (4, 3), (0, 1), (3, 4, 1), (0, 1, 4, 3, 1), [4, 3, 1], (4, 3, 1.0), (4, 3, True), (5, 3, 1), (4, 3, -4), None, True, "431",
            ((4, 3, 1),), (0, 1, 4, 3, 1, 4, 3, 1, 4, 3, 1),
        ]
        for thing in wrong:
            self.assertIs(is_ring(SHUT, thing), False, thing)
        self.assertIs(is_ring((2, ((1, 1, (-1, 2)),)), (0,)), True)
        self.assertIs(is_ring((2, ((1, 1, ZERO),)), (0,)), False)
        self.assertIs(is_ring((2, ((0, 1, (-1, 1)), (1, 0, ONE))), (0, 1)), False)

    def test_length(self):
        self.assertEqual(length(WEB, ()), ZERO)
        self.assertEqual(length(WEB, (2, 2, 1, 0)), (9, 1))
        self.assertEqual(length((1, ((0, 0, (1, 2)), (0, 0, (1, 3)))), (0, 1, 0)), (4, 3))
        for places, place in (((0, 4, 5), 4), ((-1,), -1), ((4, -1), 4), ((0, 1, 2, 3, 9), 9)):
            with self.assertRaises(NoPlace) as caught:
                length(WEB, places)
            self.assertEqual(caught.exception.place, place)

    def test_tied(self):
        self.assertEqual(tied(WEB, ((0, 2, (2, 1)),)), SHUT)
        self.assertEqual(tied(WEB, ()), WEB)
        self.assertEqual(tied((2, ()), [[1, 0, [1, 2]], [1, 1, [-1, 1]]]), (2, ((1, 0, (1, 2)), (1, 1, (-1, 1)))))
        for ties, place in ((((0, 3, ONE),), 3), (((4, 3, ONE),), 4), (((0, 1, ONE), (-1, 7, ONE)), -1), (((2, 5, ONE), (4, 4, ONE)), 5)):
            with self.assertRaises(NoPlace) as caught:
                tied(WEB, ties)
            self.assertEqual(caught.exception.place, place)


class Ways(unittest.TestCase):
    """Of schedule and ring one comes, and is one by its check."""

    def check(self, web):
        self.assertTrue(is_web(web))
        found = has(schedule, web)
        if found is None:
            self.assertIs(is_ring(web, ring(web)), True)
        else:
            self.assertIs(is_schedule(web, found), True)
            self.assertRaises(CanNot, ring, web)
        return found is not None

    def test_by_hand(self):
        for web in (WEB, (0, ()), (1, ()), (7, ()), (1, ((0, 0, ZERO),)), (2, ((0, 1, (-1, 1)), (1, 0, ONE)))):
            self.assertTrue(self.check(web))
        self.assertEqual(schedule((0, ())), ())
        twice = (2, ((0, 1, ONE), (0, 1, (-2, 1)), (0, 1, ONE), (1, 0, (2, 1)), (1, 0, (2, 1))))
        self.assertTrue(self.check(twice))
        self.assertFalse(self.check((2, twice[1] + ((1, 0, (19, 10)),))))
        for web in (SHUT, (1, ((0, 0, (-1, 9)),)), (3, ((2, 2, (-1, 9)),)), (4, ((2, 3, ZERO), (3, 2, (-1, 10 ** 9))))):
            self.assertFalse(self.check(web))
        apart = (6, WEB[1] + ((4, 5, ONE), (5, 4, (-2, 1))))
        self.assertFalse(self.check(apart))
        for call in (farthest, chain):
            self.assertRaises(CanNot, call, apart, 0, 1)
            self.assertRaises(CanNot, call, apart, 0, 0)
            self.assertRaises(CanNot, call, apart, 0, 5)

    def test_by_chance(self):
        chance = random.Random(21)
        seen = {True: 0, False: 0}
        for _ in range(600):
            seen[self.check(random_web(chance, 7, 14, -4))] += 1
        self.assertGreater(min(seen.values()), 100)

    def test_at_the_bounds(self):
        chance = random.Random(22)
        seen = {True: 0, False: 0}
        started = time.monotonic()
        for low in (0, 1, -1, -50, -1000):
            for size in (10, 10 ** 40):
                for many, ties in ((40, 200), (55, 260)):
                    told = [(chance.randrange(many), chance.randrange(many), fraction(chance.randint(low, 2000) * size, chance.randint(1, size)))
                            for _ in range(ties)]
                    seen[self.check((many, tuple(told)))] += 1
        around = tuple((k, (k + 1) % 40, (1, k + 1)) for k in range(39))
        for last in ((-4, 1), (-5, 1)):
            web = (40, around + ((39, 0, last),) + tuple((k, k, ZERO) for k in range(40)) * 4)
            seen[self.check(web)] += 1
        self.assertGreater(min(seen.values()), 3)
        self.assertLess(time.monotonic() - started, 60)

    def test_a_long_ring(self):
        """A RING round all points, just below 0; just not, it is none."""
        for order in (1, -1):
            around = [(k, k + 1, ONE) for k in range(39)][::order]
            self.assertTrue(self.check((40, tuple(around) + ((39, 0, (-39, 1)),))))
            self.assertFalse(self.check((40, tuple(around) + ((39, 0, (-391, 10)),))))


class Farthest(unittest.TestCase):
    def test_by_hand(self):
        self.assertEqual(farthest(WEB, 0, 0), ZERO)
        self.assertEqual(chain(WEB, 0, 0), ())
        self.assertEqual(farthest((2, ((0, 0, ONE),)), 0, 0), ZERO)
        self.assertIsNone(farthest((3, ((0, 1, ONE),)), 1, 0))
        self.assertIsNone(farthest((3, ((0, 1, ONE),)), 0, 2))
        self.assertRaises(CanNot, chain, (3, ((0, 1, ONE),)), 1, 0)
        self.assertEqual(chain((2, ((0, 1, (3, 1)), (0, 1, (2, 1)), (0, 1, (5, 2)))), 0, 1), (1,))
        self.assertEqual(farthest((2, ((0, 1, (3, 1)), (0, 1, (2, 1)), (0, 1, (5, 2)))), 0, 1), (2, 1))

    def test_by_chance(self):
        chance = random.Random(23)
        many = 0
        for _ in range(250):
            web = random_web(chance, 6, 10, -3)
            if has(schedule, web) is None:
                continue
            for x in range(web[0]):
                wanted = shortest(web, x)
                for y in range(web[0]):
                    self.assertEqual(farthest(web, x, y), wanted[y])
                    if wanted[y] is None:
                        self.assertRaises(CanNot, chain, web, x, y)
                        self.assertTrue(has(schedule, tied(web, ((y, x, (-1000, 1)),))))
                    else:
                        many += 1
                        way = chain(web, x, y)
                        self.assertTrue(is_chain(web, x, y, way))
                        self.assertEqual(length(web, way), wanted[y])
                        self.assertTrue(has(schedule, tied(web, ((y, x, minus_one(wanted[y])),))))
                        self.assertRaises(CanNot, schedule, tied(web, ((y, x, minus((-1, 100), wanted[y])),)))
        self.assertGreater(many, 500)

    def test_no_place(self):
        for call in (farthest, chain):
            for web in (WEB, SHUT):
                for x, y, place in ((3, 0, 3), (0, 3, 3), (4, 3, 4), (-1, 9, -1), (0, -1, -1)):
                    with self.assertRaises(NoPlace) as caught:
                        call(web, x, y)
                    self.assertEqual(caught.exception.place, place)
        for x, y, place in ((3, 0, 3), (0, 3, 3), (4, 3, 4), (0, -2, -2)):
            for thing in ((), (0,), [], None):
                with self.assertRaises(NoPlace) as caught:
                    is_chain(WEB, x, y, thing)
                self.assertEqual(caught.exception.place, place)


class Pushed(unittest.TestCase):
    def test_by_hand(self):
        self.assertEqual(stretched((1, ()), 0, ZERO), (ZERO,))
        self.assertEqual(drawn((1, ()), 0, ZERO), (ZERO,))
        self.assertEqual(stretched((3, ()), 1, (5, 2)), ((-5, 2), ZERO, (-5, 2)))
        self.assertEqual(drawn((3, ()), 1, (5, 2)), ((5, 2), ZERO, (5, 2)))

    def test_just_enough(self):
        self.assertEqual(stretched(WEB, 2, (3, 1)), ((-3, 1), (-1, 1), ZERO))
        self.assertRaises(CanNot, stretched, WEB, 2, (29, 10))
        self.assertEqual(stretched(WEB, 0, ZERO), (ZERO, (2, 1), (3, 1)))
        self.assertEqual(drawn(WEB, 0, (3, 1)), (ZERO, (2, 1), (3, 1)))
        self.assertRaises(CanNot, drawn, WEB, 0, (29, 10))
        self.assertEqual(drawn(WEB, 2, ZERO), ((-3, 1), (-1, 1), ZERO))

    def test_errors_in_order(self):
        for call in (stretched, drawn):
            for web in (WEB, SHUT):
                self.assertRaises(Unfit, call, web, 0, (-1, 10 ** 9))
                for far in ((-1, 1), ZERO):
                    for place in (3, -1):
                        with self.assertRaises(NoPlace) as caught:
                            call(web, place, far)
                        self.assertEqual(caught.exception.place, place)
            self.assertRaises(CanNot, call, SHUT, 0, (100, 1))
            self.assertRaises(NoPlace, call, (0, ()), 0, ONE)
            self.assertRaises(CanNot, call, (4, ((2, 3, ZERO), (3, 2, (-1, 1)))), 0, (100, 1))

    def test_by_chance(self):
        chance = random.Random(24)
        seen = {True: 0, False: 0}
        for _ in range(150):
            web = random_web(chance, 5, 8, -4)
            for point, far in itertools.product(range(web[0]), FAR):
                low = tied(web, tuple((p, point, far) for p in range(web[0])))
                high = tied(web, tuple((point, p, far) for p in range(web[0])))
                found = has(stretched, web, point, far)
                self.assertEqual(found is None, has(schedule, low) is None)
                if found is not None:
                    self.assertTrue(is_schedule(web, found))
                    self.assertEqual(found, tuple(minus_one(farthest(low, p, point)) for p in range(web[0])))
                seen[found is None] += 1
                found = has(drawn, web, point, far)
                self.assertEqual(found is None, has(schedule, high) is None)
                if found is not None:
                    self.assertTrue(is_schedule(web, found))
                    self.assertEqual(found, tuple(farthest(high, point, p) for p in range(web[0])))
                seen[found is None] += 1
        self.assertGreater(min(seen.values()), 100)


class Calls(unittest.TestCase):
    def test_every_call(self):
        check_call(self, is_web, ("thing",), (WEB,), things=(0,))
        check_call(self, is_schedule, ("web", "thing"), (WEB, (ZERO, (2, 1), (9, 2))), things=(1,))
        check_call(self, is_chain, ("web", "x", "y", "thing"), (WEB, 0, 2, (0, 2)), things=(3,))
        check_call(self, is_chain, ("web", "x", "y", "thing"), (WEB, 0, 3, (0, 2)), things=(3,))
        check_call(self, is_ring, ("web", "thing"), (SHUT, (4, 3, 1)), things=(1,))
        check_call(self, length, ("web", "chain"), (WEB, (0, 2)))
        check_call(self, length, ("web", "chain"), (WEB, (0, 9)))
        for web in (WEB, SHUT, (3, ((0, 1, ONE),))):
            check_call(self, schedule, ("web",), (web,))
            check_call(self, ring, ("web",), (web,))
            for x, y in ((0, 2), (2, 0), (1, 1), (0, 3)):
                check_call(self, farthest, ("web", "x", "y"), (web, x, y))
                check_call(self, chain, ("web", "x", "y"), (web, x, y))
            for point, far in ((0, (10, 1)), (2, (1, 1)), (1, (-1, 1)), (5, ZERO)):
                check_call(self, stretched, ("web", "y", "far"), (web, point, far))
                check_call(self, drawn, ("web", "x", "far"), (web, point, far))
        check_call(self, tied, ("web", "ties"), (WEB, ((0, 2, (2, 1)),)))
        check_call(self, tied, ("web", "ties"), (WEB, ((0, 3, (2, 1)),)))


if __name__ == "__main__":
    unittest.main()
