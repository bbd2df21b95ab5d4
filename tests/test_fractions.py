"""[3], [4]: FRACTIONS."""

import fractions as exact
import itertools
import unittest

from plainlock.errors import CanNot
from plainlock.fractions import fraction, greatest, is_fraction, least, less, minus, over, plus, sum_of, times
from tests.helping import check_call

GREAT = 10 ** 60
SOME = [(0, 1), (1, 1), (-1, 1), (1, 2), (-3, 2), (7, 3), (-GREAT - 1, GREAT), (GREAT, 3), (5, GREAT + 7)]


def true(x):
    return exact.Fraction(*x)


def pair(value):
    return (value.numerator, value.denominator)


class Fractions(unittest.TestCase):
    def test_fraction(self):
        self.assertEqual(fraction(0, 5), (0, 1))
        self.assertEqual(fraction(0, -5), (0, 1))
        self.assertEqual(fraction(12, 18), (2, 3))
        self.assertEqual(fraction(-12, 18), (-2, 3))
        self.assertEqual(fraction(12, -18), (-2, 3))
        self.assertEqual(fraction(-12, -18), (2, 3))
        self.assertEqual(fraction(7 * GREAT, 21 * GREAT), (1, 3))
        self.assertEqual(fraction(GREAT + 1, GREAT), (GREAT + 1, GREAT))

    def test_below_zero_of_it(self):
        for top in (0, 1, -1, GREAT):
            self.assertRaises(CanNot, fraction, top, 0)

    def test_reckoning(self):
        for x, y in itertools.product(SOME, SOME):
            self.assertEqual(plus(x, y), pair(true(x) + true(y)))
            self.assertEqual(minus(x, y), pair(true(x) - true(y)))
            self.assertEqual(times(x, y), pair(true(x) * true(y)))
            self.assertIs(less(x, y), true(x) < true(y))
            if y[0]:
                self.assertEqual(over(x, y), pair(true(x) / true(y)))
            else:
                self.assertRaises(CanNot, over, x, y)

    def test_results_are_fractions(self):
        for x, y in itertools.product(SOME, SOME):
            for call in (plus, minus, times):
                self.assertTrue(is_fraction(call(x, y)))

    def test_is_fraction(self):
        for x in SOME:
            self.assertIs(is_fraction(x), True)
        wrong = [
            [1, 2], (2, 4), (0, 2), (1, 0), (1, -2), (0, 0), (0, -1), (-2, -1), (6, 3), (1,), (1, 2, 3), (), [],
            True, False, None, "1/2", "", 1, 0, (True, 1), (1, True), (1, None), ("1", 1), (1, "2"), ((1, 1), 1),
            (1, (1,)), ([1], 1), (GREAT * 2, GREAT * 4), "12",
        ]
        for thing in wrong:
            self.assertIs(is_fraction(thing), False, thing)

    def test_least_greatest_sum_of(self):
        self.assertIsNone(least(()))
        self.assertIsNone(greatest(()))
        self.assertEqual(sum_of(()), (0, 1))
        for x in SOME:
            self.assertEqual((least((x,)), greatest((x,)), sum_of((x,))), (x, x, x))
        for some in itertools.permutations(SOME[:5]):
            self.assertEqual(least(some), (-3, 2))
            self.assertEqual(greatest(some), (1, 1))
            self.assertEqual(sum_of(some), (-1, 1))
        self.assertEqual(sum_of(tuple(SOME)), pair(sum(true(x) for x in SOME)))
        self.assertEqual(sum_of(((1, 2), (1, 3), (1, 6))), (1, 1))
        self.assertEqual(sum_of(((1, 2), (-1, 2))), (0, 1))
        self.assertEqual(least(((1, 2), (1, 3), (1, 3))), (1, 3))

    def test_every_call(self):
        check_call(self, fraction, ("top", "below"), (6, -4))
        check_call(self, fraction, ("top", "below"), (6, 0))
        check_call(self, is_fraction, ("thing",), ((1, 2),), things=(0,))
        for call in (plus, minus, times, over, less):
            check_call(self, call, ("x", "y"), ((1, 2), (-2, 3)))
        for call in (least, greatest, sum_of):
            check_call(self, call, ("some",), (((1, 2), (-2, 3), (5, 1)),))
            check_call(self, call, ("some",), ((),))


if __name__ == "__main__":
    unittest.main()
