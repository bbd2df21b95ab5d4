"""[3], [11]: class Store."""

import itertools
import random
import unittest

from plainlock.stores import Store
from tests.helping import LONE, listed

KINDS = [(asks, keeps) for asks in (True, False) for keeps in (True, False)]


def plan_of(*stores):
    return LONE[:5] + (tuple(stores),) + LONE[6:]


def a_store(asks=True, keeps=True):
    return Store(plan_of((True, False), (asks, keeps)), 4, 1)


def deed(number, serial, *what):
    return ("deed", 4, 1, number, serial, what or ("get",))


def seal(number):
    return ("seal", 4, 1, number)


def done(serial, answer):
    return ("done", 4, 1, serial, answer)


class Seen:
    """A store told once more: by the list of all that it took since it forgot, read anew each time."""

    def __init__(self, asks, keeps):
        self.asks, self.keeps, self.took, self.value = asks, keeps, [], 0

    def take(self, letter):
        word, lock, place, number = letter[:4]
        before, self.took = self.took, self.took + [letter]
        if word == "deed" and any(other[0] == "deed" and other[3] == number and other[4] >= letter[4] for other in before):
            return (None, None)
        top = self.greatest()
        if self.asks and any(other[3] > number for other in before):
            if word == "seal":
                return (("unsealed", lock, place, number, top), None)
            return (("stale", lock, place, letter[4], top), None)
        if word == "seal":
            return (("sealed", lock, place, number), None)
        elder, what = self.value, letter[5]
        self.value = what[1] if what[0] == "put" else elder
        return (("done", lock, place, letter[4], elder), (number, letter[4], what, elder))

    def fall(self):
        if not self.keeps:
            self.took = []

    def greatest(self):
        return max((letter[3] for letter in self.took), default=None)


class Deeds(unittest.TestCase):
    def test_at_first(self):
        for kind in KINDS:
            box = a_store(*kind)
            self.assertEqual((box.value(), box.greatest()), (0, None))
            self.assertEqual(box.take(deed((1, 7), 1)), (done(1, 0), ((1, 7), 1, ("get",), 0)))
            self.assertEqual((box.value(), box.greatest()), (0, (1, 7)))

    def test_put_and_get(self):
        box = a_store()
        for serial, value, elder in ((1, 5, 0), (2, -3, 5), (3, 10 ** 60, -3), (4, -10 ** 90, 10 ** 60)):
            self.assertEqual(box.take(deed((1, 7), serial, "put", value)), (done(serial, elder), ((1, 7), serial, ("put", value), elder)))
            self.assertEqual(box.value(), value)
        self.assertEqual(box.take(deed((2, 0), 9)), (done(9, -10 ** 90), ((2, 0), 9, ("get",), -10 ** 90)))

    def test_same_and_elder_serials_are_passed_over(self):
        for kind in KINDS:
            box = a_store(*kind)
            box.take(deed((2, 7), 5, "put", 4))
            for serial in (5, 4, 1):
                self.assertEqual(box.take(deed((2, 7), serial, "put", 9)), (None, None))
            self.assertEqual(box.value(), 4)
            self.assertEqual(box.take(deed((2, 7), 6))[0], done(6, 4))

    def test_serials_are_by_number(self):
        box = a_store(False, True)
        box.take(deed((2, 7), 5, "put", 4))
        self.assertEqual(box.take(deed((2, 6), 5))[0], done(5, 4))
        self.assertEqual(box.take(deed((3, 7), 1))[0], done(1, 4))
        self.assertEqual(box.take(deed((2, 7), 5)), (None, None))

    def test_stale_by_a_deed(self):
        for keeps in (True, False):
            box = a_store(True, keeps)
            box.take(deed((2, 3), 1, "put", 4))
            for number in ((1, 9), (2, 2)):
                self.assertEqual(box.take(deed(number, 8, "put", 9)), (("stale", 4, 1, 8, (2, 3)), None))
            self.assertEqual(box.value(), 4)
            self.assertEqual(box.take(deed((2, 3), 2))[0], done(2, 4))
            self.assertEqual(box.take(deed((2, 4), 1))[0], done(1, 4))

    def test_a_stale_deed_was_seen(self):
        """It is passed over when it comes again, and counts by its serial."""
        box = a_store()
        box.take(deed((2, 3), 1))
        box.take(deed((1, 3), 8))
        self.assertEqual(box.take(deed((1, 3), 8)), (None, None))
        self.assertEqual(box.take(deed((1, 3), 7)), (None, None))
        self.assertEqual(box.take(deed((1, 3), 9))[0], ("stale", 4, 1, 9, (2, 3)))

    def test_one_that_does_not_ask_does_what_is_elder(self):
        box = a_store(False, True)
        box.take(deed((2, 3), 1, "put", 4))
        self.assertEqual(box.take(deed((1, 3), 8, "put", 9)), (done(8, 4), ((1, 3), 8, ("put", 9), 4)))
        self.assertEqual((box.value(), box.greatest()), (9, (2, 3)))


class Seals(unittest.TestCase):
    def test_sealed(self):
        for kind in KINDS:
            box = a_store(*kind)
            self.assertEqual(box.take(seal((3, 0))), (("sealed", 4, 1, (3, 0)), None))
            self.assertEqual(box.take(seal((3, 0))), (("sealed", 4, 1, (3, 0)), None))
            self.assertEqual((box.value(), box.greatest()), (0, (3, 0)))

    def test_unsealed_where_a_greater_one_was_seen(self):
        box = a_store()
        box.take(seal((3, 0)))
        self.assertEqual(box.take(seal((2, 9))), (("unsealed", 4, 1, (2, 9), (3, 0)), None))
        box.take(deed((5, 1), 1))
        self.assertEqual(box.take(seal((3, 0))), (("unsealed", 4, 1, (3, 0), (5, 1)), None))
        self.assertEqual(box.greatest(), (5, 1))

    def test_one_that_does_not_ask_answers_every_seal(self):
        box = a_store(False, False)
        box.take(deed((5, 1), 1))
        self.assertEqual(box.take(seal((3, 0))), (("sealed", 4, 1, (3, 0)), None))

    def test_a_deed_is_stale_by_a_seal(self):
        box = a_store()
        box.take(seal((3, 0)))
        self.assertEqual(box.take(deed((2, 5), 4)), (("stale", 4, 1, 4, (3, 0)), None))
        self.assertEqual(box.take(deed((3, 0), 1)), (done(1, 0), ((3, 0), 1, ("get",), 0)))

    def test_a_seal_hides_no_deed(self):
        box = a_store()
        box.take(deed((3, 0), 4))
        box.take(seal((3, 0)))
        self.assertEqual(box.take(deed((3, 0), 4)), (None, None))
        self.assertEqual(box.take(deed((3, 0), 5))[0], done(5, 0))


class Falls(unittest.TestCase):
    def test_one_that_keeps(self):
        for asks in (True, False):
            box = a_store(asks, True)
            box.take(deed((3, 0), 4, "put", 6))
            self.assertIsNone(box.fall())
            self.assertEqual((box.value(), box.greatest()), (6, (3, 0)))
            self.assertEqual(box.take(deed((3, 0), 4, "put", 7)), (None, None))

    def test_one_that_does_not_keep(self):
        for asks in (True, False):
            box = a_store(asks, False)
            box.take(deed((3, 0), 4, "put", 6))
            box.take(seal((5, 0)))
            self.assertIsNone(box.fall())
            self.assertEqual((box.value(), box.greatest()), (6, None))
            self.assertEqual(box.take(deed((3, 0), 4, "put", 7)), (done(4, 6), ((3, 0), 4, ("put", 7), 6)))
            self.assertEqual(box.take(seal((2, 9)))[0][0], "unsealed" if asks else "sealed")


class Turning(unittest.TestCase):
    def test_what_was_seen_stands(self):
        box = a_store(False, False)
        box.take(deed((3, 0), 4, "put", 6))
        self.assertIsNone(box.turn(True, False))
        self.assertEqual(box.take(deed((2, 0), 1)), (("stale", 4, 1, 1, (3, 0)), None))
        self.assertEqual(box.take(deed((3, 0), 4)), (None, None))
        box.turn(False, True)
        self.assertEqual(box.take(deed((2, 0), 2))[0], done(2, 6))
        box.fall()
        self.assertEqual(box.greatest(), (3, 0))
        box.turn(True, False)
        box.fall()
        self.assertEqual((box.greatest(), box.value()), (None, 6))
        self.assertEqual(box.take(deed((1, 0), 1))[0], done(1, 6))

    def test_by_name(self):
        box = Store(place=0, lock=2, plan=listed(LONE))
        box.turn(keeps=False, asks=False)
        self.assertEqual(box.take(letter=["deed", 2, 0, [3, 1], 1, ["put", 4]]), (("done", 2, 0, 1, 0), ((3, 1), 1, ("put", 4), 0)))


class Twins(unittest.TestCase):
    def test_a_twin_goes_on_by_itself(self):
        box = a_store(True, False)
        box.take(deed((3, 0), 4, "put", 6))
        other = box.twin()
        other.take(deed((4, 0), 1, "put", 7))
        other.turn(False, True)
        self.assertEqual((box.value(), box.greatest(), other.value(), other.greatest()), (6, (3, 0), 7, (4, 0)))
        box.fall()
        self.assertEqual((box.greatest(), other.greatest()), (None, (4, 0)))
        self.assertEqual(box.take(deed((1, 0), 1))[0], done(1, 6))
        self.assertEqual(other.take(deed((3, 0), 4)), (None, None))


class AllRows(unittest.TestCase):
    def drawn(self, draw):
        number = (draw.randint(0, 3), draw.randint(0, 1))
        if draw.random() < 0.3:
            return seal(number)
        return deed(number, draw.randint(1, 4), *draw.choice((("get",), ("put", draw.randint(-9, 9)))))

    def test_beside_what_was_taken(self):
        draw = random.Random(11)
        for kind in KINDS * 100:
            box, seen = a_store(*kind), Seen(*kind)
            for _ in range(25):
                roll = draw.random()
                if roll < 0.05:
                    box.fall()
                    seen.fall()
                elif roll < 0.08:
                    kind = draw.choice(KINDS)
                    box.turn(*kind)
                    seen.asks, seen.keeps = kind
                elif roll < 0.12:
                    box = box.twin()
                else:
                    letter = self.drawn(draw)
                    self.assertEqual(box.take(listed(letter)), seen.take(letter))
                self.assertEqual((box.value(), box.greatest()), (seen.value, seen.greatest()))

    def test_guarantees(self):
        draw = random.Random(12)
        for kind in KINDS * 100:
            box, row = a_store(*kind), []
            for _ in range(25):
                if draw.random() < 0.1:
                    box.fall()
                entry = box.take(self.drawn(draw))[1]
                if entry is not None:
                    row.append(entry[:2])
            if kind == (True, True):
                self.assertTrue(all(one < other for one, other in itertools.pairwise(row)))
            if kind[1]:
                self.assertEqual(len(row), len(set(row)))

    def test_letters_are_left_as_they_were(self):
        letter = ["deed", 4, 1, [3, 0], 4, ["put", 6]]
        box = a_store()
        answer = box.take(letter)
        letter[3][0] = 9
        self.assertEqual(answer[1], ((3, 0), 4, ("put", 6), 0))
        self.assertEqual(box.greatest(), (3, 0))


if __name__ == "__main__":
    unittest.main()
