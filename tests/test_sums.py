"""[5]: LINES, ANSWERS, SUMS, EXTREMES."""

import itertools
import math
import random
import time
import unittest
from unittest import mock

from plainlock import rough, weighing
from plainlock.errors import CanNot, NoPlace, Unfit
from plainlock.fractions import fraction, is_fraction, less, minus, plus, times
from plainlock.rings import ring, schedule
from plainlock.sums import answer, extremes, greatest_of, is_answer, is_lines, is_sum, least_of, put_together, sum_against
from tests.helping import check_call, listed

ONE, ZERO = (1, 1), (0, 1)


def line(bound, **terms):
    """line(5, u0=1, u3=-2): whole numbers for FRACTIONS."""
    told = tuple((int(name[1:]), x if isinstance(x, tuple) else (x, 1)) for name, x in sorted(terms.items()))
    return (told, bound if isinstance(bound, tuple) else (bound, 1))


def random_lines(chance, many, unknowns, part, size):
    """So many LINES; each unknown stands in a part of them, with numbers up to size."""
    lines = []
    for _ in range(many):
        terms = []
        for unknown in range(unknowns):
            x = fraction(chance.randint(-size, size), chance.randint(1, size))
            if chance.random() < part and x[0]:
                terms.append((unknown, x))
        lines.append((tuple(terms), fraction(chance.randint(-size, 3 * size), chance.randint(1, size))))
    return tuple(lines)


def occurring(lines):
    return sorted({unknown for terms, _ in lines for unknown, _ in terms})


def supports_alone(lines):
    """The EXTREMES by their definition, from all sets of places, the smaller ones first."""
    found = []
    for many in range(1, len(lines) + 1):
        for places in itertools.combinations(range(len(lines)), many):
            if not any(set(support) <= set(places) for support, _ in found):
                weights = positive_weights([lines[place][0] for place in places])
                if weights is not None:
                    found.append((places, weights))
    told = []
    for places, weights in found:
        row = [ZERO] * len(lines)
        for place, weight in zip(places, weights):
            row[place] = (weight, 1)
        told.append(tuple(row))
    return tuple(sorted(told))


def positive_weights(rows):
    """Whole weights above 0 by which all these terms add up to none; None if there are none.

    No smaller set of rows has such weights, so that these are one row's multiples.
    """
    lines = []
    for unknown in sorted({unknown for terms in rows for unknown, _ in terms}):
        terms = tuple((k, dict(row)[unknown]) for k, row in enumerate(rows) if unknown in dict(row))
        lines.append((terms, ZERO))
        lines.append((tuple((k, (-x[0], x[1])) for k, x in terms), ZERO))
    for k in range(len(rows)):
        lines.append((((k, (-1, 1)),), (-1, 1)))
    try:
        weights = answer(tuple(lines))
    except CanNot:
        return None
    below = math.lcm(*[x[1] for x in weights])
    tops = [x[0] * below // x[1] for x in weights]
    return [top // math.gcd(*tops) for top in tops]


class Forms(unittest.TestCase):
    def test_is_lines(self):
        term = (0, ONE)
        right = [
            (), (((), ZERO),), (((), (-1, 2)), ((), (-1, 2))), (((term,), ZERO),), (((term, (99, (-7, 3))), (1, 9)),),
            tuple(((), ZERO) for _ in range(300)),
        ]
        for thing in right:
            self.assertIs(is_lines(thing), True, thing)
        wrong = [
            [], None, True, 0, "", ((),), (((term,),),), (((term,), ZERO, ZERO),), (([term], ZERO),), ([(term,), ZERO],),
            [((term,), ZERO)], (((term,), 0),), (((term,), (2, 2)),), (((term,), None),), (((term,), True),),
            ((((100, ONE),), ZERO),), ((((-1, ONE),), ZERO),), ((((True, ONE),), ZERO),), (((("0", ONE),), ZERO),),
            ((((0, ZERO),), ZERO),), ((((0, (2, 2)),), ZERO),), ((((0, 1),), ZERO),), ((([0, ONE],), ZERO),),
            ((((0, [1, 1]),), ZERO),), (((term, term), ZERO),), ((((1, ONE), (0, ONE)), ZERO),), ((((0, ONE, ONE),), ZERO),),
            ((((0,),), ZERO),), (((term,), ZERO), None), (((None,), ZERO),), ((None, ZERO),), (None,), (((0, ONE), ZERO),),
        ]
        for thing in wrong:
            self.assertIs(is_lines(thing), False, thing)

    def test_is_answer(self):
        lines = (line(5, u0=1, u2=1), line((-1, 2), u2=-1))
        for thing in (((0, 1), (0, 1), (1, 2)), ((9, 2), (7, 3), (1, 2)), ((-100, 1), ZERO, (100, 1))):
            self.assertIs(is_answer(lines, thing), True, thing)
        right = (ZERO, ZERO, (1, 2))
        wrong = [
            (ZERO, ZERO, (1, 3)), ((5, 1), ZERO, (1, 2)), right[:2], right + (ZERO,), list(right), (ZERO, ZERO, [1, 2]),
            (ZERO, ZERO, (2, 4)), (0, 0, 1), (ZERO, None, (1, 2)), (), None, True, "", (ZERO, (True, 1), (1, 2)),
        ]
        for thing in wrong:
            self.assertIs(is_answer(lines, thing), False, thing)
        self.assertIs(is_answer((), ()), True)
        self.assertIs(is_answer((), (ZERO,)), False)
        self.assertIs(is_answer((), []), False)
        self.assertIs(is_answer((line(0),), ()), True)
        self.assertIs(is_answer((line((-1, 9)),), ()), False)

    def test_is_sum(self):
        lines = (line(-2, u0=1, u1=-1), line(5, u1=1), line(-4, u0=-1), line(7))
        right = [(ONE, ONE, ONE, ZERO), ((1, 3), (1, 3), (1, 3), ZERO), ((9, 1), (9, 1), (9, 1), (1, 1))]
        for thing in right:
            self.assertIs(is_sum(lines, thing), True, thing)
        wrong = [
            (ZERO, ZERO, ZERO, ZERO), (ONE, ONE, ONE), (ONE, ONE, ONE, ZERO, ZERO), (ONE, ONE, (2, 1), ZERO),
            (ONE, ONE, ONE, (1, 7)), (ONE, ONE, ONE, (1, 2)), (ONE, ONE, ONE, (-1, 1)), [ONE, ONE, ONE, ZERO],
            ([1, 1], ONE, ONE, ZERO), ((2, 2), ONE, ONE, ZERO), (1, 1, 1, 0), (ONE, ONE, None, ZERO), (), None, True, "1",
            ((-1, 1), (-1, 1), (-1, 1), ZERO), (ONE, ONE, (True, 1), ZERO),
        ]
        for thing in wrong:
            self.assertIs(is_sum(lines, thing), False, thing)
        self.assertIs(is_sum((), ()), False)
        self.assertIs(is_sum((line(-1),), (ONE,)), True)
        self.assertIs(is_sum((line(0),), (ONE,)), False)
        self.assertIs(is_sum((line(-1, u4=1),), (ONE,)), False)

    def test_put_together(self):
        lines = (line((1, 2), u0=2, u3=(1, 3)), line(-4, u0=-1, u9=5), line(1))
        self.assertEqual(put_together(lines, (ONE, (2, 1), (1, 2))), (((3, (1, 3)), (9, (10, 1))), (-7, 1)))
        self.assertEqual(put_together(lines, ((3, 1), ZERO, ZERO)), (((0, (6, 1)), (3, ONE)), (3, 2)))
        self.assertEqual(put_together(lines, (ZERO, ZERO, ZERO)), ((), ZERO))
        self.assertEqual(put_together((), ()), ((), ZERO))
        self.assertEqual(put_together(listed(lines), [[1, 1], [0, 1], [0, 1]]), lines[0])

    def test_put_together_unfit(self):
        lines = (line(1, u0=1), line(2, u1=1))
        for weights in ((ONE,), (ONE, ONE, ONE), (), (ONE, (-1, 1)), (ONE, (2, 2)), (ONE, 1), (ONE, None), (ONE, True)):
            self.assertRaises(Unfit, put_together, lines, weights)
        self.assertRaises(Unfit, put_together, (), (ONE,))


class Ways(unittest.TestCase):
    """Of answer and sum_against one comes, and is one by its check."""

    def check(self, lines):
        try:
            found = answer(lines)
        except CanNot:
            weights = sum_against(lines)
            self.assertIs(is_sum(lines, weights), True)
            return None
        self.assertIs(is_answer(lines, found), True)
        self.assertRaises(CanNot, sum_against, lines)
        return found

    def test_by_hand(self):
        self.assertEqual(self.check(()), ())
        self.assertEqual(self.check((line(0), line(3))), ())
        self.assertIsNone(self.check((line(0), line((-1, 100)))))
        self.assertIsNotNone(self.check((line(2, u0=1), line(-2, u0=-1))))
        self.assertIsNone(self.check((line(2, u0=1), line((-21, 10), u0=-1))))
        self.assertEqual(self.check((line(2, u7=1), line(-2, u7=-1)))[7], (2, 1))
        self.assertEqual(len(self.check((line(2, u99=1),))), 100)
        same = line(-3, u0=2, u1=-1)
        self.assertIsNotNone(self.check((same, same, same)))
        self.assertIsNone(self.check((same, same, line(3, u0=-2, u1=1), line((29, 10), u0=-2, u1=1))))
        self.assertIsNone(self.check((line(1, u0=1), line(1, u1=1), line(-3, u0=-1, u1=-1))))
        self.assertIsNotNone(self.check((line(1, u0=1), line(1, u1=1), line(-2, u0=-1, u1=-1))))

    def test_by_chance(self):
        chance = random.Random(11)
        seen = {True: 0, False: 0}
        for _ in range(400):
            lines = random_lines(chance, chance.randint(0, 9), chance.randint(1, 5), chance.choice((0.3, 0.6, 1)),
                                 chance.choice((1, 2, 5, 50)))
            seen[self.check(lines) is None] += 1
        self.assertGreater(min(seen.values()), 50)

    def test_differences_by_chance(self):
        """LINES that leave all unknowns free to move together, against the WEBS of the same differences."""
        chance = random.Random(10)
        seen = {True: 0, False: 0}
        for size in (3, 4, 6, 9, 30):
            for _ in range(60):
                ties = [tuple(chance.sample(range(size), 2)) + ((chance.randint(-3, 6), 2),) for _ in range(chance.randint(1, 2 * size))]
                ties = tuple((x, y, fraction(*most)) for x, y, most in ties)
                lines = tuple((tuple(sorted(((x, (-1, 1)), (y, ONE)))), most) for x, y, most in ties)
                is_kept = self.check(lines) is not None
                seen[is_kept] += 1
                if is_kept:
                    schedule((size, ties))
                else:
                    ring((size, ties))
        self.assertGreater(min(seen.values()), 50)

    def test_tight_by_chance(self):
        chance = random.Random(12)
        for size in (1, 4, 9):
            for _ in range(12):
                lines = random_lines(chance, 30, 12, 0.6, size)
                place = [fraction(chance.randint(-9, 9), chance.randint(1, 4)) for _ in range(12)]
                tight = []
                for terms, _ in lines:
                    bound = ZERO
                    for unknown, x in terms:
                        bound = plus(bound, times(x, place[unknown]))
                    tight.append((terms, bound))
                # place fulfils each of them with nothing to spare
                self.assertIsNotNone(self.check(tuple(tight)))
                turned = tuple((k, (-x[0], x[1])) for k, x in tight[0][0])
                if turned:
                    self.assertIsNone(self.check(tuple(tight) + ((turned, minus(minus(ZERO, tight[0][1]), (1, 10 ** 9))),)))

    def test_at_the_bounds(self):
        chance = random.Random(13)
        seen = {True: 0, False: 0}
        started = time.monotonic()
        for part, size in ((0.1, 3), (0.1, 10 ** 9), (0.3, 10), (1, 1), (1, 10), (0.5, 40)):
            for many, unknowns in ((100, 44), (120, 50)):
                lines = random_lines(chance, many, unknowns, part, size)
                seen[self.check(lines) is None] += 1
        self.assertGreater(min(seen.values()), 0)
        self.assertLess(time.monotonic() - started, 300)

    def test_hard_to_leave(self):
        """Steps on which nothing grows must not lead in a circle."""
        lines = (
            line(0, u0=(1, 4), u1=-60, u2=(-1, 25), u3=9), line(0, u0=(1, 2), u1=-90, u2=(-1, 50), u3=3), line(1, u2=1),
            line(0, u0=-1), line(0, u1=-1), line(0, u2=-1), line(0, u3=-1),
            line(0, u0=(-3, 4), u1=150, u2=(-1, 50), u3=6, u4=1),
        )
        self.assertEqual(greatest_of(lines, 4), (1, 20))


class Extremes(unittest.TestCase):
    def test_by_hand(self):
        self.assertEqual(extremes(()), ())
        self.assertEqual(extremes((line(5),)), ((ONE,),))
        self.assertEqual(extremes((line(5, u0=1),)), ())
        self.assertEqual(extremes((line(5, u0=6), line(1, u0=-4), line(0))), ((ZERO, ZERO, ONE), ((2, 1), (3, 1), ZERO)))
        same = (line(1, u0=1), line(2, u0=1), line(3, u0=-1))
        self.assertEqual(extremes(same), ((ZERO, ONE, ONE), (ONE, ZERO, ONE)))
        self.assertEqual(extremes((line(0, u0=(1, 2)), line(0, u0=(-1, 3)))), (((2, 1), (3, 1)),))

    def test_not_hanging_on_bounds(self):
        chance = random.Random(14)
        for _ in range(40):
            lines = random_lines(chance, chance.randint(1, 8), 3, 0.7, 3)
            other = tuple((terms, fraction(chance.randint(-9, 9), 7)) for terms, _ in lines)
            self.assertEqual(extremes(lines), extremes(other))

    def test_complete(self):
        chance = random.Random(15)
        many = 0
        for _ in range(120):
            lines = random_lines(chance, chance.randint(0, 7), chance.randint(1, 4), chance.choice((0.3, 0.6, 1)), 3)
            if lines and chance.random() < 0.3:
                lines = lines + lines[:1]
            found = extremes(lines)
            self.assertEqual(found, supports_alone(lines), lines)
            self.assertEqual(list(found), sorted(set(found)))
            many += len(found)
        self.assertGreater(many, 100)

    def test_of_differences(self):
        """LINES that say how far one unknown is above another: their EXTREMES are the ways round, each once."""
        for many, wanted in ((2, 1), (3, 5), (4, 20), (5, 84)):
            pairs = list(itertools.permutations(range(many), 2))
            lines = tuple((tuple(sorted(((x, (-1, 1)), (y, ONE)))), (k, 1)) for k, (x, y) in enumerate(pairs))
            found = extremes(lines)
            self.assertEqual(len(found), wanted)
            self.assertEqual(list(found), sorted(set(found)))
            for weights in found:
                steps = [pair for pair, weight in zip(pairs, weights) if weight == ONE]
                self.assertEqual(len(steps), sum(weight != ZERO for weight in weights))
                self.assertEqual(len({x for x, _ in steps}), len(steps))
                self.assertEqual({x for x, _ in steps}, {y for _, y in steps})
        pairs = list(itertools.permutations(range(4), 2))
        lines = tuple((tuple(sorted(((x, (-1, 1)), (y, ONE)))), ZERO) for x, y in pairs[:8] + pairs[:2])
        self.assertEqual(extremes(lines), supports_alone(lines))

    def test_tell_whether_there_is_an_answer(self):
        chance = random.Random(16)
        for _ in range(60):
            lines = random_lines(chance, chance.randint(1, 8), 3, 0.7, 4)
            below = any(less(put_together(lines, weights)[1], ZERO) for weights in extremes(lines))
            if below:
                self.assertRaises(CanNot, answer, lines)
            else:
                self.assertTrue(is_answer(lines, answer(lines)))

    def test_at_the_bounds(self):
        for many, unknowns, wanted in ((14, 5, 294), (14, 7, 210), (15, 4, 378), (16, 6, 660)):
            lines = tuple(line(0, **{f"u{u:02}": (-1) ** k * (k + 1) ** u for u in range(unknowns)}) for k in range(many))
            found = extremes(lines)
            self.assertEqual(len(found), wanted)
            for weights in found[:50]:
                self.assertEqual(put_together(lines, weights), ((), ZERO))
                self.assertEqual(math.gcd(*[x for x, _ in weights]), 1)


class Tops(unittest.TestCase):
    def test_by_hand(self):
        box = (line(5, u0=1), line((7, 2), u0=-1), line(1, u3=1, u0=-2))
        self.assertEqual((greatest_of(box, 0), least_of(box, 0)), ((5, 1), (-7, 2)))
        self.assertEqual((greatest_of(box, 3), least_of(box, 3)), ((11, 1), None))
        self.assertIsNone(greatest_of((line(0, u1=1, u2=-1),), 1))
        self.assertIsNone(least_of((line(0, u1=1, u2=-1),), 1))
        self.assertEqual(greatest_of((line(0, u1=1, u2=-1), line(0, u1=-1, u2=1), line(3, u2=2)), 1), (3, 2))

    def test_no_place_ahead_of_all(self):
        without = (line(1, u0=1), line(-2, u0=-1))
        for call in (greatest_of, least_of):
            self.assertRaises(CanNot, call, without, 0)
            for unknown in (1, 99, -1, 100):
                for lines in (without, (line(1, u0=1),), (), (line(-1),)):
                    with self.assertRaises(NoPlace) as caught:
                        call(lines, unknown)
                    self.assertEqual(caught.exception.place, unknown)

    def check(self, lines, unknown, sign, found):
        """found is the greatest of sign times unknown: it can be had, and nothing above it."""
        terms = ((unknown, (-sign, 1)),)
        if found is None:
            self.assertTrue(answer(lines + ((terms, (-10 ** 12, 1)),)))
            return
        self.assertTrue(is_fraction(found))
        height = times((sign, 1), found)
        self.assertTrue(answer(lines + ((terms, minus(ZERO, height)),)))
        self.assertRaises(CanNot, answer, lines + ((terms, minus((-1, 10 ** 12), height)),))

    def test_by_chance(self):
        chance = random.Random(17)
        seen = {True: 0, False: 0}
        for _ in range(200):
            lines = random_lines(chance, chance.randint(1, 8), chance.randint(1, 4), 0.6, chance.choice((1, 3, 20)))
            for unknown in occurring(lines)[:2]:
                if self.has_answer(lines):
                    for call, sign in ((greatest_of, 1), (least_of, -1)):
                        found = call(lines, unknown)
                        self.check(lines, unknown, sign, found)
                        seen[found is None] += 1
                else:
                    self.assertRaises(CanNot, greatest_of, lines, unknown)
                    self.assertRaises(CanNot, least_of, lines, unknown)
        self.assertGreater(min(seen.values()), 50)

    def has_answer(self, lines):
        try:
            answer(lines)
        except CanNot:
            return False
        return True

    def test_at_the_bounds(self):
        chance = random.Random(18)
        seen = {True: 0, False: 0}
        for part, size, many in ((0.1, 3, 100), (0.2, 10 ** 6, 12), (0.3, 10, 12), (1, 3, 12), (1, 20, 30)):
            lines = random_lines(chance, many, 44, part, size)
            lines = tuple((terms, (abs(bound[0]), bound[1])) for terms, bound in lines)
            if many == 12:
                lines += tuple((((k, (sign, 1)),), (50 + k, 1)) for k in range(44) for sign in (1, -1))
            for call, sign in ((greatest_of, 1), (least_of, -1)):
                found = call(lines, 0)
                self.check(lines, 0, sign, found)
                seen[found is None] += 1
        self.assertGreater(min(seen.values()), 0)


class Guesses(unittest.TestCase):
    """Whatever a rough table leads to, what is told is right."""

    def test_bad_guesses(self):
        chance = random.Random(20)
        seen = {"lost": 0, "held": 0, "answer": 0, "sum": 0, "top": 0, "endless": 0}
        guess = weighing._from_guess

        def spy(rows, many, goal):
            found = guess(rows, many, goal)
            seen["lost" if found is None else "held"] += 1
            return found
        for depth, dust in ((320, 120), (12, 5), (9, 6), (6, 1), (3, 2)):
            with mock.patch.object(rough, "DEPTH", depth), mock.patch.object(rough, "DUST", dust):
                with mock.patch.object(weighing, "_from_guess", spy):
                    for _ in range(25):
                        self.check(chance, seen)
        self.assertGreater(min(seen.values()), 20, seen)

    def test_false_guesses(self):
        chance = random.Random(9)
        seen = {"answer": 0, "sum": 0, "top": 0, "endless": 0}
        lies = (("rise", False), ("rise", True), ("settle", None), ("settle", 0), ("settle", 3))
        for name, lie in lies:
            with mock.patch.object(rough.Rough, name, lambda table: lie):
                for _ in range(20):
                    self.check(chance, seen)
        with mock.patch.object(rough.Rough, "pivot", side_effect=rough.Lost()):
            for _ in range(20):
                self.check(chance, seen)
        self.assertGreater(min(seen.values()), 10, seen)

    def check(self, chance, seen):
        lines = random_lines(chance, 30, 8, 0.5, chance.choice((2, 5)))
        if chance.random() < 0.6:
            lines = tuple((terms, (abs(bound[0]) + 1, bound[1])) for terms, bound in lines[:chance.choice((9, 25, 30))])
        try:
            self.assertTrue(is_answer(lines, answer(lines)))
            seen["answer"] += 1
        except CanNot:
            self.assertTrue(is_sum(lines, sum_against(lines)))
            self.assertRaises(CanNot, greatest_of, lines, 0)
            seen["sum"] += 1
            return
        self.assertRaises(CanNot, sum_against, lines)
        for call, sign in ((greatest_of, 1), (least_of, -1)):
            found = call(lines, 0)
            Tops().check(lines, 0, sign, found)
            seen["endless" if found is None else "top"] += 1


class Calls(unittest.TestCase):
    def test_every_call(self):
        lines = (line(-2, u0=1, u1=-1), line(5, u1=1), line((1, 3)))
        bad = lines + (line(-4, u0=-1),)
        check_call(self, is_lines, ("thing",), (lines,), things=(0,))
        for given in (lines, bad):
            for call in (answer, sum_against, extremes):
                check_call(self, call, ("lines",), (given,))
            for unknown in (0, 1, 7):
                check_call(self, greatest_of, ("lines", "unknown"), (given, unknown))
                check_call(self, least_of, ("lines", "unknown"), (given, unknown))
        check_call(self, is_answer, ("lines", "thing"), (lines, answer(lines)), things=(1,))
        check_call(self, is_sum, ("lines", "thing"), (bad, sum_against(bad)), things=(1,))
        check_call(self, put_together, ("lines", "weights"), (lines, (ONE, (1, 2), ZERO)))
        check_call(self, put_together, ("lines", "weights"), (lines, (ONE, (1, 2))))

    def test_every_call_at_length(self):
        lines = random_lines(random.Random(19), 40, 14, 0.5, 5)
        wide = tuple((terms, (abs(bound[0]) + 1, bound[1])) for terms, bound in lines)
        for given in (lines, wide):
            check_call(self, answer, ("lines",), (given,))
            check_call(self, sum_against, ("lines",), (given,))
            check_call(self, greatest_of, ("lines", "unknown"), (given, 3))


if __name__ == "__main__":
    unittest.main()
