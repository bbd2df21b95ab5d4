"""[7]: SHEETS, PLAYS, bounds between events."""

import random
import time
import unittest

from plainlock.errors import CanNot, NoPlace
from plainlock.fractions import fraction, is_fraction, less, minus, plus, times
from plainlock.rings import farthest, is_schedule, ring, schedule
from plainlock.sheets import (
    bound_for, greatest_between, is_bound, is_no_way, is_play, is_sheet, lines_of, no_way, overlapping, play, web_of, with_ties)
from plainlock.sums import is_answer, is_lines, is_sum, put_together
from tests.helping import ONE, SLOPE, TWO, bent, check_call, listed

ZERO = (0, 1)
EMPTY = ((), (), (), (), ())
# Two houses; letters there and back; one span; one TIE of each kind.
FULL = (
    (((1, 2), (3, 2)), ((1, 1), (2, 1))),
    (0, 1, 0, 1, 0),
    ((0, 1, (1, 2), (3, 1)), (3, 4, ONE, None)),
    ((0, 2, (1, 3), None), (1, 3, ZERO, (4, 1))),
    ((0, 4, (9, 1)), (2, 2, ZERO), (3, 1, (-1, 2))),
)
FULL_PLAY = ((ZERO, ZERO), (ONE, (5, 1)), ((3, 2), (3, 2)), (TWO, (13, 2)), ((4, 1), (4, 1)))
DESK = ((((1, 1), (2, 1)),), (0, 0, 0), (), ((0, 1, (4, 1), None), (0, 2, (0, 1), (6, 1))), ())
LATE = with_ties(DESK, ((2, 1, (-3, 1)),))


def minus_one(x):
    return (-x[0], x[1])


def random_sheet(chance, houses, events, letters, spans, ties, part):
    """A SHEET, that often has no PLAY."""
    clocks = tuple((fraction(chance.randint(1, part), part), fraction(chance.randint(part, 2 * part), part)) for _ in range(houses))
    where = tuple(chance.randrange(houses) for _ in range(events))

    def lasting():
        least = fraction(chance.randint(0, 8), chance.randint(1, part))
        return (least, None if chance.random() < 0.3 else plus(least, fraction(chance.randint(0, 20), chance.randint(1, part))))
    posts, rows = [], []
    while events > 1 and len(posts) < letters:
        pair = chance.sample(range(events), 2)
        posts.append(tuple(sorted(pair) if chance.random() < 0.9 else pair) + lasting())
    for _ in range(20 * spans if events > 1 else 0):
        first, last = sorted(chance.sample(range(events), 2))
        if where[first] == where[last] and len(rows) < spans:
            rows.append((first, last) + lasting())
    knots = [(chance.randrange(events), chance.randrange(events), fraction(chance.randint(-1, 40), chance.randint(1, part)))
             for _ in range(ties if events else 0)]
    return (clocks, where, tuple(posts), tuple(rows), tuple(knots))


def played_sheet(chance, houses, events, letters, spans, ties, part):
    """A SHEET around a PLAY of it, and that PLAY."""
    clocks = tuple((fraction(chance.randint(1, part), part), fraction(chance.randint(part, 2 * part), part)) for _ in range(houses))
    where = tuple(chance.randrange(houses) for _ in range(events))
    newest, stands, moment = {}, [], ZERO
    for house in where:
        moment = plus(moment, fraction(chance.randint(0, 3 * part), part))
        slow, fast = clocks[house]
        rate = plus(slow, times(fraction(chance.randint(0, part), part), minus(fast, slow)))
        before = newest.get(house, (moment, fraction(chance.randint(0, 9), 1)))
        newest[house] = (moment, plus(before[1], times(rate, minus(moment, before[0]))))
        stands.append(newest[house])

    def around(first, last, part_of):
        gap = minus(stands[last][part_of], stands[first][part_of])
        least = times(gap, fraction(chance.randint(0, part), part))
        return (first, last, least, None if chance.random() < 0.3 else plus(gap, fraction(chance.randint(0, part), part)))
    pairs = [tuple(sorted(chance.sample(range(events), 2))) for _ in range(40 * spans)]
    posts = [around(*tuple(sorted(chance.sample(range(events), 2))), 0) for _ in range(letters)]
    rows = [around(*pair, 1) for pair in pairs if where[pair[0]] == where[pair[1]]][:spans]
    knots = []
    for _ in range(ties):
        x, y = chance.randrange(events), chance.randrange(events)
        knots.append((x, y, plus(minus(stands[y][0], stands[x][0]), fraction(chance.randint(0, part), part))))
    return (clocks, where, tuple(posts), tuple(rows), tuple(knots)), tuple(stands)


class Forms(unittest.TestCase):
    def test_is_sheet_right(self):
        edges = (
            EMPTY, FULL, DESK, LATE, ((SLOPE,), (), (), (), ()), ((SLOPE,), (0,), (), (), ((0, 0, (-1, 1)),)),
            ((((1, 10 ** 9), (10 ** 9, 1)),), (0, 0), ((1, 0, ZERO, ZERO),), ((0, 1, ZERO, ZERO),), ()),
            (tuple([SLOPE] * 30), tuple(range(30)) * 3, (), (), ()),
        )
        for thing in edges:
            self.assertIs(is_sheet(thing), True, thing)

    def test_is_sheet_bent(self):
        bends = [
            ((), list), ((), lambda sheet: sheet[:4]), ((), lambda sheet: sheet + ((),)), ((), None), ((), True), ((), ""),
            ((0,), list), ((0,), ()), ((0,), lambda clocks: clocks[:1]), ((0, 0), list), ((0, 0), (ONE,)), ((0, 0), (ONE, ONE, ONE)),
            ((0, 0, 0), ZERO), ((0, 0, 0), (-1, 2)), ((0, 0, 0), (11, 10)), ((0, 0, 0), 1), ((0, 0, 0), (2, 4)), ((0, 0, 0), None),
            ((0, 0, 1), (9, 10)), ((0, 0, 1), None), ((0, 0, 1), [1, 1]), ((0, 0), None), ((0, 0, 0), (True, 2)),
            ((1,), list), ((1, 0), 2), ((1, 0), -1), ((1, 0), True), ((1, 0), None), ((1, 0), "0"), ((1, 0), (0,)), ((1,), None),
            ((2,), list), ((2,), None), ((2, 0), list), ((2, 0), (0, 1, ONE)), ((2, 0), (0, 1, ONE, None, None)), ((2, 0), None),
            ((2, 0, 0), 1), ((2, 0, 0), 5), ((2, 0, 0), -1), ((2, 0, 0), True), ((2, 0, 1), 0), ((2, 0, 1), 5), ((2, 0, 1), None),
            ((2, 0, 1), -1), ((2, 0, 2), (-1, 2)), ((2, 0, 2), None), ((2, 0, 2), (31, 10)), ((2, 0, 2), 0), ((2, 0, 2), [1, 2]),
            ((2, 0, 3), (2, 5)), ((2, 0, 3), 3), ((2, 0, 3), True), ((2, 0, 3), [3, 1]), ((2, 0, 3), (6, 2)), ((2, 0, 3), ()),
            ((3,), list), ((3,), None), ((3, 0), list), ((3, 0), (0, 2, ONE)), ((3, 0, 0), 2), ((3, 0, 0), 1), ((3, 0), (2, 0, ZERO, None)),
            ((3, 0), (0, 1, ZERO, None)), ((3, 0), (2, 2, ZERO, None)), ((3, 0, 1), 5), ((3, 0, 1), True), ((3, 0, 2), (-1, 9)),
            ((3, 0, 2), None), ((3, 1, 3), (-1, 1)), ((3, 1, 2), (5, 1)), ((3, 1, 3), 4), ((3, 0, 0), -5),
            ((4,), list), ((4,), None), ((4, 0), list), ((4, 0), (0, 4)), ((4, 0, 0), 5), ((4, 0, 1), 5), ((4, 0, 0), -1),
            ((4, 0, 2), None), ((4, 0, 2), 9), ((4, 0, 2), (18, 2)), ((4, 0, 1), True), ((4, 0), (0, 4, ONE, ONE)),
        ]
        for path, new in bends:
            thing = bent(FULL, path, new)
            self.assertIs(is_sheet(thing), False, (path, thing))

    def test_is_play_right(self):
        self.assertIs(is_play(FULL, FULL_PLAY), True)
        self.assertIs(is_play(EMPTY, ()), True)
        self.assertIs(is_play(((SLOPE,), (0,), (), (), ()), (((-7, 3), (10 ** 30, 1)),)), True)
        for moment, reading in ((ZERO, ZERO), (ONE, ONE), ((5, 2), (5, 2))):
            self.assertIs(is_play(((SLOPE,), (0, 0), (), (), ()), ((ZERO, ZERO), (moment, reading))), True)

    def test_is_play_bent(self):
        bends = [
            ((), list), ((), lambda thing: thing[:4]), ((), lambda thing: thing + thing[:1]), ((), None), ((), ()), ((0,), list),
            ((0,), (ZERO,)), ((0,), (ZERO, ZERO, ZERO)), ((0,), None), ((0, 0), 0), ((0, 1), None), ((0, 0), [0, 1]), ((0, 1), (0, 2)),
            ((), True), ((), "01234"), ((0, 1), (True, 1)),
            # a clock too slow and too fast, a letter too soon and too late, a span too short and too long, each TIE
            ((2, 1), (37, 16)), ((2, 1), (7, 10)), ((4, 1), (27, 10)), ((3, 1), (59, 10)), ((3, 1), (71, 10)),
            ((1, 0), (2, 5)), ((0, 0), (-5, 2)), ((4, 0), (29, 10)), ((2, 1), (1, 4)), ((4, 0), (91, 10)), ((3, 0), (7, 5)),
        ]
        for path, new in bends:
            self.assertIs(is_play(FULL, bent(FULL_PLAY, path, new)), False, (path, new))

    def test_is_play_each_condition_alone(self):
        houses = (((1, 2), (2, 1)),)
        bare = (houses, (0, 0), (), (), ())
        for moment, reading, wanted in (
                (TWO, ONE, True), (TWO, (4, 1), True), (TWO, (99, 100), False), (TWO, (401, 100), False), (ZERO, ZERO, True),
                ((-1, 100), ZERO, False), ((-1, 1), (-1, 1), False), (ZERO, (1, 100), False)):
            self.assertIs(is_play(bare, ((ZERO, ZERO), (moment, reading))), wanted, (moment, reading))
        posts = ((SLOPE, SLOPE), (0, 1), ((1, 0, ONE, TWO),), (), ())
        for moment, wanted in ((ONE, True), (TWO, True), ((99, 100), False), ((201, 100), False)):
            self.assertIs(is_play(posts, ((moment, ZERO), (ZERO, ZERO))), wanted)
        self.assertIs(is_play(bent(posts, (2, 0, 3), None), (((99, 1), ZERO), (ZERO, ZERO))), True)
        rows = (houses, (0, 0), (), ((0, 1, ONE, TWO),), ())
        for reading, wanted in ((ONE, True), (TWO, True), ((99, 100), False), ((201, 100), False)):
            self.assertIs(is_play(rows, ((ZERO, ZERO), ((3, 2), reading))), wanted)
        knots = ((SLOPE, SLOPE), (0, 1), (), (), ((0, 1, (-1, 1)),))
        for moment, wanted in (((-1, 1), True), ((-5, 1), True), ((-99, 100), False)):
            self.assertIs(is_play(knots, ((ZERO, ZERO), (moment, ZERO))), wanted)
        self.assertIs(is_play(with_ties(knots, ((1, 1, (-1, 9)),)), ((ZERO, ZERO), ((-1, 1), ZERO))), False)


class Rows(unittest.TestCase):
    def test_lines_of(self):
        slow, fast = (1, 2), (3, 2)
        wanted = (
            (((0, ONE), (4, (-1, 1))), ZERO),
            (((0, (-1, 2)), (1, ONE), (4, slow), (5, (-1, 1))), ZERO),
            (((0, fast), (1, (-1, 1)), (4, (-3, 2)), (5, ONE)), ZERO),
            (((2, ONE), (6, (-1, 1))), ZERO),
            (((2, (-1, 1)), (3, ONE), (6, ONE), (7, (-1, 1))), ZERO),
            (((2, TWO), (3, (-1, 1)), (6, (-2, 1)), (7, ONE)), ZERO),
            (((4, ONE), (8, (-1, 1))), ZERO),
            (((4, (-1, 2)), (5, ONE), (8, slow), (9, (-1, 1))), ZERO),
            (((4, fast), (5, (-1, 1)), (8, (-3, 2)), (9, ONE)), ZERO),
            (((0, ONE), (2, (-1, 1))), (-1, 2)),
            (((0, (-1, 1)), (2, ONE)), (3, 1)),
            (((6, ONE), (8, (-1, 1))), (-1, 1)),
            (((1, ONE), (5, (-1, 1))), (-1, 3)),
            (((3, ONE), (7, (-1, 1))), ZERO),
            (((3, (-1, 1)), (7, ONE)), (4, 1)),
            (((0, (-1, 1)), (8, ONE)), (9, 1)),
            ((), ZERO),
            (((2, ONE), (6, (-1, 1))), (-1, 2)),
        )
        self.assertEqual(lines_of(FULL), wanted)
        self.assertTrue(is_lines(lines_of(FULL)))
        self.assertEqual(lines_of(EMPTY), ())
        self.assertEqual(lines_of(((SLOPE,), (0,), (), (), ((0, 0, (-1, 2)),))), (((), (-1, 2)),))
        back = ((SLOPE, SLOPE), (0, 1), ((1, 0, ONE, TWO),), (), ())
        self.assertEqual(lines_of(back), (
            (((0, (-1, 1)), (2, ONE)), (-1, 1)), (((0, ONE), (2, (-1, 1))), TWO)))

    def test_web_of(self):
        wanted = (5, (
            (2, 0, ZERO), (3, 1, ZERO), (4, 2, ZERO),
            (1, 0, (-1, 2)), (0, 1, (3, 1)), (4, 3, (-1, 1)),
            (2, 0, (-2, 9)), (3, 1, ZERO), (1, 3, (4, 1)),
            (0, 4, (9, 1)), (2, 2, ZERO), (3, 1, (-1, 2)),
        ))
        self.assertEqual(web_of(FULL), wanted)
        self.assertEqual(web_of(EMPTY), (0, ()))
        fast = ((((1, 3), (2, 1)),), (0, 0), (), ((0, 1, ONE, (5, 1)),), ())
        self.assertEqual(web_of(fast), (2, ((1, 0, ZERO), (1, 0, (-1, 2)), (0, 1, (15, 1)))))

    def test_overlapping(self):
        def of(where, *spans):
            return overlapping((tuple([SLOPE] * 3), where, (), tuple(span + (ZERO, None) for span in spans), ()))
        row = (0, 0, 0, 0, 0)
        self.assertEqual(of(row), ())
        self.assertEqual(of(row, (0, 4)), ())
        self.assertEqual(of(row, (0, 2), (2, 4)), ())
        self.assertEqual(of(row, (2, 4), (0, 2)), ())
        self.assertEqual(of(row, (0, 1), (2, 3)), ())
        self.assertEqual(of(row, (0, 2), (1, 3)), ((0, 1),))
        self.assertEqual(of(row, (1, 3), (0, 2)), ((0, 1),))
        self.assertEqual(of(row, (0, 4), (1, 2)), ((0, 1),))
        self.assertEqual(of(row, (1, 2), (0, 4)), ((0, 1),))
        self.assertEqual(of(row, (1, 2), (1, 2)), ((0, 1),))
        self.assertEqual(of(row, (0, 3), (0, 1), (2, 3), (3, 4), (1, 4)), ((0, 1), (0, 2), (0, 4), (2, 4), (3, 4)))
        self.assertEqual(of((0, 1, 0, 1), (0, 2), (1, 3)), ())
        self.assertEqual(of((0, 1, 2, 1, 0, 1), (0, 4), (1, 3), (3, 5), (1, 5)), ((1, 3), (2, 3)))

    def test_with_ties(self):
        self.assertEqual(LATE, DESK[:4] + (((2, 1, (-3, 1)),),))
        self.assertEqual(with_ties(FULL, ()), FULL)
        self.assertEqual(with_ties(FULL, ((4, 4, ONE),))[4], FULL[4] + ((4, 4, ONE),))
        for ties, place in ((((0, 3, ONE),), 3), (((4, 3, ONE),), 4), (((0, 1, ONE), (-1, 7, ONE)), -1), (((2, 5, ONE), (4, 4, ONE)), 5)):
            with self.assertRaises(NoPlace) as caught:
                with_ties(DESK, ties)
            self.assertEqual(caught.exception.place, place)


class Ways(unittest.TestCase):
    """Of play and no_way one comes, and is one by its check."""

    def check(self, sheet):
        self.assertTrue(is_sheet(sheet))
        lines = lines_of(sheet)
        try:
            found = play(sheet)
        except CanNot:
            weights = no_way(sheet)
            self.assertIs(is_no_way(sheet, weights), True)
            self.assertIs(is_sum(lines, weights), True)
            if overlapping(sheet) == ():
                ring(web_of(sheet))
            return False
        self.assertIs(is_play(sheet, found), True)
        self.assertRaises(CanNot, no_way, sheet)
        self.assertTrue(is_schedule(web_of(sheet), tuple(moment for moment, _ in found)))
        return True

    def test_by_hand(self):
        for sheet in (EMPTY, FULL, DESK, ((SLOPE,), (0,), (), (), ()), ((SLOPE,), (0, 0), (), ((0, 1, ONE, ONE),), ())):
            self.assertTrue(self.check(sheet))
        self.assertEqual(play(EMPTY), ())
        self.assertEqual(len(play(((SLOPE, SLOPE), (0, 1, 1), (), (), ()))), 3)
        for sheet in (LATE, ((SLOPE,), (0, 0), ((1, 0, ONE, None),), (), ()), ((SLOPE,), (0,), (), (), ((0, 0, (-1, 9)),))):
            self.assertFalse(self.check(sheet))
        tight = ((SLOPE, SLOPE), (0, 0, 1), ((0, 2, ONE, ONE), (2, 1, ONE, ONE)), ((0, 1, TWO, TWO),), ())
        self.assertTrue(self.check(tight))
        self.assertFalse(self.check(bent(tight, (3, 0), (0, 1, (21, 10), None))))
        self.assertFalse(self.check(bent(tight, (3, 0), (0, 1, ZERO, (19, 10)))))

    def test_is_no_way(self):
        weights = no_way(LATE)
        self.assertIs(is_no_way(LATE, weights), True)
        self.assertIs(is_no_way(DESK, weights[:-1]), False)
        for thing in (list(weights), weights[:-1], weights + (ZERO,), (), None, True, tuple([ZERO] * len(weights)), weights[:-1] + (ZERO,)):
            self.assertIs(is_no_way(LATE, thing), False, thing)
        self.assertIs(is_no_way(LATE, tuple(times((1, 7), weight) for weight in weights)), True)
        self.assertIs(is_no_way(LATE, tuple(minus_one(weight) for weight in weights)), False)

    def test_by_chance(self):
        chance = random.Random(31)
        seen = {True: 0, False: 0}
        for _ in range(350):
            sheet = random_sheet(chance, chance.randint(1, 3), chance.randint(0, 7), chance.randint(0, 4), chance.randint(0, 3),
                                 chance.randint(0, 2), 4)
            seen[self.check(sheet)] += 1
        self.assertGreater(min(seen.values()), 50)

    def test_schedules_are_of_plays(self):
        """If no two spans overlap, each SCHEDULE of web_of is that of some PLAY."""
        chance = random.Random(32)
        many = 0
        for _ in range(150):
            sheet = random_sheet(chance, 2, 6, 3, 2, 1, 3)
            if overlapping(sheet) == ():
                try:
                    moments = schedule(web_of(sheet))
                except CanNot:
                    self.assertRaises(CanNot, play, sheet)
                    continue
                many += 1
                fixed = [tie for k, x in enumerate(moments) for tie in ((0, k, minus(x, moments[0])), (k, 0, minus(moments[0], x)))]
                self.assertTrue(is_play(with_ties(sheet, fixed), play(with_ties(sheet, fixed))))
        self.assertGreater(many, 40)

    def test_at_the_bounds(self):
        chance = random.Random(33)
        started = time.monotonic()
        for part in (4, 100, 10 ** 6, 10 ** 12):
            for size in ((8, 20, 20, 12, 20), (9, 26, 26, 15, 26), (2, 60, 10, 20, 10)):
                sheet, stands = played_sheet(chance, *size, part)
                self.assertTrue(is_play(sheet, stands))
                self.assertTrue(self.check(sheet))
                self.assertFalse(self.check(with_ties(sheet, ((0, size[1] - 1, ZERO), (size[1] - 1, 0, (-1, 9))))))
                last = size[1] - 1
                found = greatest_between(sheet, 0, last)
                if found is not None:
                    self.assertFalse(less(found, minus(stands[last][0], stands[0][0])))
                    self.assertTrue(is_bound(sheet, 0, last, found, bound_for(sheet, 0, last)))
        self.assertLess(time.monotonic() - started, 120)


class Between(unittest.TestCase):
    def test_by_hand(self):
        self.assertEqual(greatest_between(DESK, 1, 2), TWO)
        self.assertEqual(greatest_between(DESK, 0, 2), (6, 1))
        self.assertEqual(greatest_between(DESK, 2, 0), (-2, 1))
        self.assertEqual(greatest_between(DESK, 1, 1), ZERO)
        free = ((SLOPE, SLOPE), (0, 1), ((0, 1, ONE, None),), (), ())
        self.assertIsNone(greatest_between(free, 0, 1))
        self.assertEqual(greatest_between(free, 1, 0), (-1, 1))
        self.assertIsNone(greatest_between(((SLOPE, SLOPE), (0, 1), (), (), ()), 0, 1))
        self.assertEqual(greatest_between(((SLOPE,), (0,), (), (), ()), 0, 0), ZERO)
        self.assertEqual(bound_for(((SLOPE,), (0,), (), (), ()), 0, 0), ())

    def check(self, sheet, x, y):
        found = greatest_between(sheet, x, y)
        far = farthest(web_of(sheet), x, y)
        if overlapping(sheet) == ():
            self.assertEqual(found, far)
        if found is None:
            self.assertIsNone(far)
            self.assertRaises(CanNot, bound_for, sheet, x, y)
            play(with_ties(sheet, ((y, x, (-10 ** 9, 1)),)))
            return 0
        self.assertTrue(is_fraction(found))
        self.assertTrue(far is None or not less(far, found))
        bound = bound_for(sheet, x, y)
        self.assertIs(is_bound(sheet, x, y, found, bound), True)
        self.assertIs(is_bound(sheet, x, y, plus(found, ONE), bound), True)
        self.assertIs(is_bound(sheet, x, y, minus(found, (1, 10 ** 9)), bound), False)
        play(with_ties(sheet, ((y, x, minus_one(found)),)))
        self.assertRaises(CanNot, play, with_ties(sheet, ((y, x, minus((-1, 10 ** 9), found)),)))
        return 1 if found == far else 2

    def test_by_chance(self):
        chance = random.Random(34)
        seen = [0, 0, 0]
        for _ in range(120):
            sheet = random_sheet(chance, chance.randint(1, 3), chance.randint(1, 6), chance.randint(0, 4), chance.randint(0, 3),
                                 chance.randint(0, 2), 4)
            try:
                play(sheet)
            except CanNot:
                for call in (greatest_between, bound_for):
                    self.assertRaises(CanNot, call, sheet, 0, len(sheet[1]) - 1)
                    self.assertRaises(CanNot, call, sheet, 0, 0)
                continue
            for x in range(len(sheet[1])):
                for y in range(len(sheet[1])):
                    seen[self.check(sheet, x, y)] += 1
        self.assertGreater(min(seen), 10)

    def test_is_bound(self):
        bound = bound_for(DESK, 1, 2)
        self.assertEqual(put_together(lines_of(DESK), bound), (((2, (-1, 1)), (4, ONE)), TWO))
        self.assertIs(is_bound(DESK, 1, 2, TWO, bound), True)
        for thing in (
                list(bound), bound[:-1], bound + (ZERO,), (), None, True, tuple([ZERO] * len(bound)),
                tuple(minus_one(x) for x in bound), tuple(times(TWO, x) for x in bound), tuple(x[0] for x in bound),
                tuple(list(x) for x in bound)):
            self.assertIs(is_bound(DESK, 1, 2, (9, 1), thing), False, thing)
        self.assertIs(is_bound(DESK, 2, 1, TWO, bound), False)
        self.assertIs(is_bound(DESK, 0, 2, TWO, bound), False)
        self.assertIs(is_bound(DESK, 1, 2, (199, 100), bound), False)
        none = tuple([ZERO] * len(bound))
        self.assertIs(is_bound(DESK, 1, 1, ZERO, none), True)
        self.assertIs(is_bound(DESK, 1, 1, (-1, 9), none), False)
        self.assertIs(is_bound(DESK, 0, 1, (100, 1), none), False)
        self.assertIs(is_bound(LATE, 1, 1, (-1, 1), tuple(times((9, 1), x) for x in no_way(LATE))), True)

    def test_errors_in_order(self):
        for sheet in (DESK, LATE):
            for call in (greatest_between, bound_for, lambda sheet, x, y: is_bound(sheet, x, y, ONE, None)):
                for x, y, place in ((3, 0, 3), (0, 3, 3), (4, 3, 4), (-1, 9, -1), (0, -1, -1)):
                    with self.assertRaises(NoPlace) as caught:
                        call(sheet, x, y)
                    self.assertEqual(caught.exception.place, place)
        for x, y in ((0, 1), (1, 1)):
            self.assertRaises(CanNot, greatest_between, LATE, x, y)
            self.assertRaises(CanNot, bound_for, LATE, x, y)
        self.assertRaises(NoPlace, greatest_between, EMPTY, 0, 0)


class Calls(unittest.TestCase):
    def test_every_call(self):
        check_call(self, is_sheet, ("thing",), (FULL,), things=(0,))
        check_call(self, is_play, ("sheet", "thing"), (FULL, FULL_PLAY), things=(1,))
        for sheet in (EMPTY, FULL, DESK, LATE):
            for call in (lines_of, web_of, overlapping, play, no_way):
                check_call(self, call, ("sheet",), (sheet,))
            for x, y in ((1, 2), (2, 0), (0, 9), (9, 0)):
                check_call(self, greatest_between, ("sheet", "x", "y"), (sheet, x, y))
                check_call(self, bound_for, ("sheet", "x", "y"), (sheet, x, y))
        check_call(self, is_no_way, ("sheet", "thing"), (LATE, no_way(LATE)), things=(1,))
        check_call(self, is_bound, ("sheet", "x", "y", "most", "thing"), (DESK, 1, 2, TWO, bound_for(DESK, 1, 2)), things=(4,))
        check_call(self, is_bound, ("sheet", "x", "y", "most", "thing"), (DESK, 1, 3, TWO, bound_for(DESK, 1, 2)), things=(4,))
        check_call(self, with_ties, ("sheet", "ties"), (DESK, ((2, 1, (-3, 1)),)))
        check_call(self, with_ties, ("sheet", "ties"), (DESK, ((2, 3, (-3, 1)),)))

    def test_lists_at_length(self):
        sheet = played_sheet(random.Random(35), 8, 20, 20, 12, 20, 12)[0]
        self.assertEqual(play(listed(sheet)), play(sheet))
        self.assertTrue(is_play(listed(sheet), play(sheet)))
        self.assertTrue(is_answer(lines_of(listed(sheet)), tuple(x for stand in play(sheet) for x in stand)))


if __name__ == "__main__":
    unittest.main()
