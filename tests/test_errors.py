"""[28], [2]: the six errors."""

import unittest

from plainlock.errors import BadText, Broken, CanNot, NoPlace, TooMany, Unfit

KEEPING = ((NoPlace, LookupError, "place"), (BadText, ValueError, "line"), (Broken, ValueError, "word"))
BARE = (CanNot, TooMany, Unfit)


class Errors(unittest.TestCase):
    def test_directly_under(self):
        for kind, above, _ in KEEPING:
            self.assertEqual(kind.__bases__, (above,))
        for kind in BARE:
            self.assertEqual(kind.__bases__, (ValueError,))

    def test_each_keeps_what_it_is_given(self):
        for kind, above, name in KEEPING:
            for value in (3, "word", ("length", 1), None):
                by_place, by_name = kind(value), kind(**{name: value})
                self.assertEqual(vars(by_place), {name: value})
                self.assertEqual(vars(by_name), {name: value})
                self.assertIsInstance(by_place, above)

    def test_side_by_side(self):
        for kind, _, name in KEEPING:
            one, other = kind(1), kind(2)
            self.assertEqual((getattr(one, name), getattr(other, name)), (1, 2))

    def test_number_of_arguments(self):
        for kind, _, name in KEEPING:
            self.assertRaises(TypeError, kind)
            self.assertRaises(TypeError, kind, 1, 2)
            self.assertRaises(TypeError, kind, other=1)
        for kind in BARE:
            self.assertEqual(vars(kind()), {})
            self.assertRaises(TypeError, kind, 1)

    def test_raised_and_caught(self):
        for kind, above, name in KEEPING:
            with self.assertRaises(above) as caught:
                raise kind(**{name: 5})
            self.assertEqual(getattr(caught.exception, name), 5)
        for kind in BARE:
            with self.assertRaises(ValueError):
                raise kind()


if __name__ == "__main__":
    unittest.main()
