"""[3], [10]: class Library."""

import copy
import itertools
import random
import unittest

from plainlock.clients import Library
from plainlock.errors import CanNot, Unfit
from plainlock.fractions import plus
from plainlock.keepers import Keeper
from plainlock.plans import changed, is_plan
from tests.facts import Facts
from tests.helping import LONE, at, listed

# two of three keepers, a fourth in no LOT, two stores of a lock
MANY = (((0, 1), (0, 2), (1, 2)), LONE[1] * 4) + LONE[2:5] + (LONE[5] * 2,) + LONE[6:]
K0, K1, K2, K3 = [("keeper", k) for k in range(4)]


def store(place, lock=0):
    return ("store", lock, place)


def plan_with(plan, **parts):
    """plan_with(LONE, counts="taken", faults=("forgets",))"""
    for name, value in parts.items():
        plan = changed(plan, (name,), value)
    return plan


def to_all(plan, letter):
    return tuple((("keeper", k), letter) for k in range(len(plan[1])))


def told_one(plan=LONE, client=7, lock=0, reading=0):
    """A Library that was told its first number, asked for at this reading, by all keepers two ticks later."""
    library = Library(plan, client)
    library.act(at(reading), ("ask", lock))
    for k in range(len(plan[1])):
        letter = ("grant", lock) if "bare grant" in plan[6] else ("grant", lock, (1, client), 1)
        library.take(at(reading + 2), ("keeper", k), letter)
    return library


def standing(library, locks=(0, 1, 2)):
    return [(library.number(lock), library.stands(lock), library.last(lock)) for lock in locks]


class Asking(unittest.TestCase):
    def test_at_first(self):
        library = Library(LONE, 7)
        self.assertEqual(standing(library), [(None, False, None)] * 3)
        for act in (("again", 0), ("anew", 0), ("not now", 0), ("release", 0), ("send",)):
            self.assertRaises(CanNot, library.act, at(0), act)
        self.assertEqual(library.act(at(0), ("look", 0)), ((), (("look", 0, False),)))
        self.assertEqual(library.act(at(0), ("deed", 0, 0, ("get",))), ((), (("not held", 0, 0),)))
        self.assertEqual(library.take(at(0), K0, ("grant", 0, (1, 7), 1)), ((), ()))
        self.assertEqual(library.take(at(0), store(0), ("done", 0, 0, 1, 4)), ((), ()))

    def test_ask(self):
        library = Library(MANY, 7)
        self.assertEqual(library.act(at(0), ("ask", 2)), (to_all(MANY, ("ask", 2, (1, 7), 1)), (("ask", 2),)))
        self.assertEqual(standing(library), [(None, False, None)] * 2 + [((1, 7), False, None)])
        self.assertRaises(CanNot, library.act, at(0), ("ask", 2))
        self.assertEqual(library.act(at(0), ("ask", 0)), (to_all(MANY, ("ask", 0, (1, 7), 2)), (("ask", 0),)))

    def test_ask_while_it_stands(self):
        library = told_one()
        self.assertRaises(CanNot, library.act, at(3), ("ask", 0))
        library.act(at(3), ("release", 0))
        self.assertEqual(library.act(at(3), ("ask", 0)), (to_all(LONE, ("ask", 0, (2, 7), 2)), (("ask", 0),)))
        self.assertEqual(standing(library, (0,)), [((2, 7), False, None)])

    def test_ask_when_belief_has_ended(self):
        """The number is over only by what makes it so, not by time."""
        library = told_one()
        self.assertRaises(CanNot, library.act, at(50), ("ask", 0))
        self.assertTrue(library.stands(0))
        library.act(at(50), ("look", 0))
        self.assertEqual(library.act(at(50), ("ask", 0))[0], to_all(LONE, ("ask", 0, (2, 7), 2)))

    def test_again(self):
        library = Library(LONE, 7)
        library.act(at(0), ("ask", 0))
        self.assertEqual(library.act(at(1), ("again", 0)), (to_all(LONE, ("ask", 0, (1, 7), 2)), ()))
        library.take(at(2), K0, ("grant", 0, (1, 7), 1))
        self.assertEqual(library.act(at(3), ("again", 0)), (to_all(LONE, ("ask", 0, (1, 7), 3)), ()))
        self.assertEqual(library.last(0), at(10))
        library.take(at(4), K0, ("grant", 0, (1, 7), 3))
        self.assertEqual(library.last(0), at(13))
        library.act(at(5), ("release", 0))
        self.assertRaises(CanNot, library.act, at(5), ("again", 0))

    def test_anew(self):
        library = Library(LONE, 7)
        library.act(at(0), ("ask", 0))
        self.assertEqual(library.act(at(1), ("anew", 0)), (to_all(LONE, ("ask", 0, (2, 7), 2)), ()))
        self.assertEqual(library.take(at(2), K0, ("grant", 0, (1, 7), 1)), ((), ()))
        self.assertEqual(library.take(at(2), K0, ("grant", 0, (2, 7), 1)), ((), ()))
        self.assertEqual(standing(library, (0,)), [((2, 7), False, None)])
        self.assertEqual(library.take(at(2), K0, ("grant", 0, (2, 7), 2)), ((), (("told", 0, (2, 7)),)))
        self.assertRaises(CanNot, library.act, at(3), ("anew", 0))

    def test_not_now(self):
        library = Library(MANY, 7)
        library.act(at(0), ("ask", 0))
        library.take(at(1), K0, ("grant", 0, (1, 7), 1))
        self.assertEqual(library.act(at(1), ("not now", 0)), (to_all(MANY, ("release", 0, (1, 7))), (("not now", 0),)))
        self.assertEqual(library.take(at(1), K1, ("grant", 0, (1, 7), 1)), ((), ()))
        for act in (("not now", 0), ("again", 0), ("anew", 0), ("release", 0)):
            self.assertRaises(CanNot, library.act, at(2), act)
        self.assertEqual(library.act(at(2), ("ask", 0)), (to_all(MANY, ("ask", 0, (2, 7), 2)), (("ask", 0),)))
        told = told_one()
        self.assertRaises(CanNot, told.act, at(3), ("not now", 0))

    def test_release(self):
        library = told_one(MANY)
        self.assertEqual(library.act(at(3), ("release", 0)), (to_all(MANY, ("release", 0, (1, 7))), (("released", 0),)))
        self.assertEqual(standing(library, (0,)), [((1, 7), False, at(10))])
        self.assertRaises(CanNot, library.act, at(3), ("release", 0))
        self.assertEqual(library.act(at(3), ("look", 0)), ((), (("look", 0, False),)))

    def test_counts_of_letters(self):
        letters = [
            (("refused", 0, (5, 3)), 6), (("refused", 0, None), 2), (("stale", 0, 0, 9, (8, 1)), 9), (("done", 0, 0, 9, 55), 2),
            (("unsealed", 0, 0, (0, 7), (4, 2)), 5), (("unsealed", 0, 0, (7, 7), (4, 2)), 8), (("sealed", 0, 0, (6, 7)), 7),
            (("grant", 0, (12, 7), 3), 13), (("refused", 1, (5, 3)), 2), (("grant", 0), 2),
        ]
        for letter, count in letters:
            library = told_one()
            house = K0 if letter[0] in ("grant", "refused") else store(0)
            self.assertEqual(library.take(at(3), house, letter), ((), ()))
            self.assertTrue(library.stands(0))
            library.act(at(3), ("release", 0))
            library.act(at(3), ("ask", 0))
            self.assertEqual(library.number(0), (count, 7), letter)
        library = Library(LONE, 7)
        library.take(at(0), K0, ("refused", 0, (3, 9)))
        library.take(at(0), K0, ("refused", 0, (2, 9)))
        library.act(at(0), ("ask", 0))
        library.act(at(0), ("ask", 1))
        self.assertEqual((library.number(0), library.number(1)), ((4, 7), (1, 7)))
        library.take(at(0), K0, ("refused", 0, (30, 1)))
        library.act(at(0), ("anew", 0))
        self.assertEqual(library.number(0), (31, 7))


class Believing(unittest.TestCase):
    def test_by_some_lot(self):
        library = Library(MANY, 7)
        library.act(at(0), ("ask", 0))
        library.act(at(3), ("again", 0))
        self.assertEqual(library.take(at(4), K3, ("grant", 0, (1, 7), 1)), ((), ()))
        self.assertEqual(library.take(at(4), K1, ("grant", 0, (1, 7), 1)), ((), ()))
        self.assertIsNone(library.last(0))
        self.assertEqual(library.take(at(5), K2, ("grant", 0, (1, 7), 2)), ((), (("told", 0, (1, 7)),)))
        self.assertEqual(library.last(0), at(10))
        self.assertEqual(library.take(at(6), K0, ("grant", 0, (1, 7), 2)), ((), ()))
        self.assertEqual(library.last(0), at(13))
        # an elder serial takes nothing back
        library.take(at(6), K0, ("grant", 0, (1, 7), 1))
        library.take(at(6), K2, ("grant", 0, (1, 7), 1))
        self.assertEqual(library.last(0), at(13))

    def test_sent_and_taken(self):
        for counts, wanted in (("sent", (10, 10, 14, 14)), ("taken", (12, 15, 16, 17))):
            library = Library(plan_with(LONE, counts=counts), 7)
            library.act(at(0), ("ask", 0))
            found = []
            library.take(at(2), K0, ("grant", 0, (1, 7), 1))
            found.append(library.last(0))
            library.act(at(4), ("again", 0))
            library.take(at(5), K0, ("grant", 0, (1, 7), 1))
            found.append(library.last(0))
            library.take(at(6), K0, ("grant", 0, (1, 7), 2))
            found.append(library.last(0))
            library.take(at(7), K0, ("grant", 0, (1, 7), 1))
            found.append(library.last(0))
            self.assertEqual(found, [at(end) for end in wanted])

    def test_what_does_not_count(self):
        for letter in (("grant", 0, (2, 7), 1), ("grant", 0, (1, 8), 1), ("grant", 0, (1, 7), 2), ("grant", 1, (1, 7), 1), ("refused", 0, None)):
            library = Library(LONE, 7)
            library.act(at(0), ("ask", 0))
            self.assertEqual(library.take(at(1), K0, letter), ((), ()))
            self.assertEqual(standing(library, (0, 1)), [((1, 7), False, None), (None, False, None)])
        # behind its end a grant counts no more
        library = told_one()
        library.act(at(3), ("again", 0))
        library.act(at(3), ("release", 0))
        library.take(at(4), K0, ("grant", 0, (1, 7), 2))
        self.assertEqual(library.last(0), at(10))

    def test_at_the_very_edge(self):
        for late, told in ((at(10), (("told", 0, (1, 7)),)), ((101, 10), ())):
            library = Library(LONE, 7)
            library.act(at(0), ("ask", 0))
            self.assertEqual(library.take(late, K0, ("grant", 0, (1, 7), 1)), ((), told))
            self.assertEqual(library.last(0), at(10))
        # what came too late is told with a later grant
        library.act(at(11), ("again", 0))
        self.assertEqual(library.take(at(12), K0, ("grant", 0, (1, 7), 2)), ((), (("told", 0, (1, 7)),)))

    def test_bare_grant(self):
        for counts, wanted in (("sent", (10, 14)), ("taken", (12, 15))):
            plan = plan_with(LONE, counts=counts, faults=("bare grant",))
            library = Library(plan, 7)
            self.assertEqual(library.take(at(0), K0, ("grant", 0)), ((), ()))
            library.act(at(0), ("ask", 0))
            self.assertEqual(library.take(at(2), K0, ("grant", 0)), ((), (("told", 0, (1, 7)),)))
            self.assertEqual(library.last(0), at(wanted[0]))
            library.act(at(4), ("again", 0))
            library.take(at(5), K0, ("grant", 0))
            self.assertEqual(library.last(0), at(wanted[1]))
            library.act(at(5), ("release", 0))
            library.act(at(6), ("ask", 0))
            # a grant of the elder number counts for the new one
            self.assertEqual(library.take(at(7), K0, ("grant", 0)), ((), (("told", 0, (2, 7)),)))
            library.act(at(7), ("release", 0))
            self.assertEqual(library.take(at(8), K0, ("grant", 0)), ((), ()))
            self.assertEqual(library.last(0), at(16 if counts == "sent" else 17))

    def test_number_never_told_twice(self):
        library = told_one()
        self.assertEqual(library.take(at(3), K0, ("grant", 0, (1, 7), 1)), ((), ()))
        library.act(at(3), ("again", 0))
        self.assertEqual(library.take(at(30), K0, ("grant", 0, (1, 7), 2)), ((), ()))
        self.assertTrue(library.stands(0))


class Looking(unittest.TestCase):
    def test_look(self):
        library = told_one(MANY)
        self.assertEqual(library.act(at(10), ("look", 0)), ((), (("look", 0, True),)))
        self.assertEqual(library.act((101, 10), ("look", 0)), (to_all(MANY, ("release", 0, (1, 7))), (("look", 0, False),)))
        self.assertEqual(library.act((101, 10), ("look", 0)), ((), (("look", 0, False),)))
        self.assertEqual(standing(library, (0,)), [((1, 7), False, at(10))])

    def test_look_while_an_ask_is_open(self):
        library = Library(LONE, 7)
        library.act(at(0), ("ask", 0))
        self.assertEqual(library.act(at(1), ("look", 0)), ((), (("look", 0, False),)))
        self.assertEqual(library.act(at(1), ("deed", 0, 0, ("get",))), ((), (("not held", 0, 0),)))
        self.assertEqual(library.take(at(2), K0, ("grant", 0, (1, 7), 1)), ((), (("told", 0, (1, 7)),)))

    def test_deed(self):
        library = told_one(MANY)
        deed = ("deed", 0, 1, (1, 7), 2, ("put", -5))
        self.assertEqual(library.act(at(10), ("deed", 0, 1, ("put", -5))), ((), (deed,)))
        self.assertEqual(library.act(at(99), ("send",)), (((store(1), deed),), ()))
        self.assertRaises(CanNot, library.act, at(99), ("send",))
        self.assertEqual(library.act(at(99), ("deed", 0, 1, ("get",))), (to_all(MANY, ("release", 0, (1, 7))), (("not held", 0, 1),)))
        self.assertEqual(library.act(at(99), ("deed", 0, 0, ("get",))), ((), (("not held", 0, 0),)))
        library.act(at(99), ("ask", 0))
        self.assertEqual(library.take(at(99), K0, ("refused", 0, None)), ((), ()))
        self.assertEqual(library.number(0), (2, 7))

    def test_serials_are_one_count(self):
        library = told_one()
        library.act(at(3), ("deed", 0, 0, ("get",)))
        library.act(at(3), ("send",))
        self.assertEqual(library.act(at(3), ("ask", 1))[0][0][1], ("ask", 1, (1, 7), 3))
        self.assertEqual(library.act(at(3), ("deed", 0, 0, ("get",)))[1], (("deed", 0, 0, (1, 7), 4, ("get",)),))
        library.act(at(3), ("send",))
        self.assertEqual(library.act(at(3), ("again", 1))[0][0][1], ("ask", 1, (1, 7), 5))

    def test_a_deed_waits_for_its_sending(self):
        library = told_one()
        library.act(at(3), ("deed", 0, 0, ("get",)))
        acts = [("ask", 1), ("ask", 0), ("again", 0), ("anew", 0), ("not now", 0), ("release", 0), ("look", 0), ("look", 1), ("deed", 0, 0, ("get",))]
        for act in acts:
            self.assertRaises(CanNot, library.act, at(4), act)
            self.assertRaises(Unfit, library.act, at(2), act)
        for house, letter in ((K0, ("grant", 0, (1, 7), 1)), (K0, ("refused", 1, (9, 9))), (store(0), ("done", 0, 0, 2, 0))):
            self.assertRaises(CanNot, library.take, at(4), house, letter)
            self.assertRaises(Unfit, library.take, at(2), house, letter)
        self.assertRaises(Unfit, library.act, at(2), ("send",))
        # the refused events left no trace, their readings neither
        self.assertEqual(library.act(at(3), ("send",)), (((store(0), ("deed", 0, 0, (1, 7), 2, ("get",))),), ()))
        self.assertEqual(library.act(at(3), ("ask", 1)), (to_all(LONE, ("ask", 1, (1, 7), 3)), (("ask", 1),)))


class Answers(unittest.TestCase):
    def with_deeds(self, many, plan=LONE):
        library = told_one(plan)
        for _ in range(many):
            library.act(at(3), ("deed", 0, 0, ("get",)))
            library.act(at(3), ("send",))
        return library

    def test_done(self):
        library = self.with_deeds(2)
        self.assertEqual(library.take(at(4), store(0), ("done", 0, 0, 3, -8)), ((), (("done", 0, 0, 3, -8),)))
        self.assertEqual(library.take(at(4), store(0), ("done", 0, 0, 3, -8)), ((), ()))
        self.assertEqual(library.take(at(4), store(0), ("stale", 0, 0, 3, (9, 9))), ((), ()))
        self.assertTrue(library.stands(0))
        self.assertEqual(library.take(at(4), store(0), ("done", 0, 0, 2, 1)), ((), (("done", 0, 0, 2, 1),)))
        self.assertEqual(library.take(at(4), store(0), ("done", 0, 0, 1, 1)), ((), ()))
        self.assertTrue(library.stands(0))

    def test_stale(self):
        library = self.with_deeds(2)
        self.assertEqual(library.take(at(4), store(0), ("stale", 0, 0, 2, (9, 9))), ((), (("stale", 0, 0, 2),)))
        self.assertEqual(standing(library, (0,)), [((1, 7), False, at(10))])
        self.assertRaises(CanNot, library.act, at(4), ("release", 0))
        self.assertEqual(library.take(at(4), store(0), ("stale", 0, 0, 2, (9, 9))), ((), ()))
        self.assertEqual(library.act(at(4), ("look", 0)), ((), (("look", 0, False),)))
        self.assertEqual(library.act(at(4), ("ask", 0))[0], to_all(LONE, ("ask", 0, (10, 7), 4)))
        # an elder number's deed: told, but the present number goes on
        library.take(at(5), K0, ("grant", 0, (10, 7), 4))
        self.assertEqual(library.take(at(5), store(0), ("stale", 0, 0, 3, (9, 9))), ((), (("stale", 0, 0, 3),)))
        self.assertTrue(library.stands(0))

    def test_done_behind_the_end(self):
        library = self.with_deeds(1)
        library.act(at(4), ("release", 0))
        library.act(at(4), ("ask", 0))
        self.assertEqual(library.take(at(4), store(0), ("done", 0, 0, 2, 6)), ((), (("done", 0, 0, 2, 6),)))
        self.assertEqual(library.number(0), (2, 7))

    def test_waits(self):
        plan = plan_with(MANY, releases="waits")
        release = to_all(plan, ("release", 0, (1, 7)))
        for act, told in ((("release", 0), ("released", 0)), (("look", 0), ("look", 0, False)), (("deed", 0, 1, ("get",)), ("not held", 0, 1))):
            library = self.with_deeds(2, plan)
            library.take(at(4), store(0), ("done", 0, 0, 2, 0))
            self.assertEqual(library.act(at(11), act), ((), (told,)))
            self.assertEqual(library.take(at(11), store(0), ("done", 0, 0, 2, 0)), ((), ()))
            self.assertEqual(library.take(at(11), store(0), ("done", 0, 0, 3, 0)), (release, (("done", 0, 0, 3, 0),)))
            self.assertEqual(library.take(at(11), store(0), ("done", 0, 0, 3, 0)), ((), ()))
            library = self.with_deeds(2, plan)
            library.act(at(11), act)
            self.assertEqual(library.take(at(11), store(0), ("stale", 0, 0, 3, (4, 4))), ((), (("stale", 0, 0, 3),)))
            library.act(at(11), ("ask", 0))
            self.assertEqual(library.take(at(12), store(0), ("stale", 0, 0, 2, (4, 4))), (release, (("stale", 0, 0, 2),)))
            self.assertEqual(library.number(0), (5, 7))
        # nothing to wait for
        library = self.with_deeds(1, plan)
        library.take(at(4), store(0), ("done", 0, 0, 2, 0))
        self.assertEqual(library.act(at(4), ("release", 0)), (release, (("released", 0),)))
        library = Library(plan, 7)
        library.act(at(0), ("ask", 0))
        self.assertEqual(library.act(at(0), ("not now", 0)), (release, (("not now", 0),)))
        # "once": at once, and never again
        library = self.with_deeds(1, MANY)
        self.assertEqual(library.act(at(4), ("release", 0)), (release, (("released", 0),)))
        self.assertEqual(library.take(at(4), store(0), ("done", 0, 0, 2, 0)), ((), (("done", 0, 0, 2, 0),)))

    def test_waits_for_several_numbers(self):
        plan = plan_with(LONE, releases="waits")
        library = self.with_deeds(1, plan)
        library.act(at(4), ("release", 0))
        library.act(at(4), ("ask", 0))
        library.take(at(5), K0, ("grant", 0, (2, 7), 3))
        library.act(at(5), ("deed", 0, 0, ("get",)))
        library.act(at(5), ("send",))
        library.act(at(5), ("release", 0))
        self.assertEqual(library.take(at(6), store(0), ("done", 0, 0, 4, 0)), (to_all(plan, ("release", 0, (2, 7))), (("done", 0, 0, 4, 0),)))
        self.assertEqual(library.take(at(6), store(0), ("done", 0, 0, 2, 0)), (to_all(plan, ("release", 0, (1, 7))), (("done", 0, 0, 2, 0),)))

    def test_stale_is_never_released(self):
        plan = plan_with(LONE, releases="waits")
        library = self.with_deeds(2, plan)
        self.assertEqual(library.take(at(4), store(0), ("stale", 0, 0, 2, (4, 4))), ((), (("stale", 0, 0, 2),)))
        self.assertEqual(library.take(at(4), store(0), ("done", 0, 0, 3, 0)), ((), (("done", 0, 0, 3, 0),)))


class Sealed(unittest.TestCase):
    plan = plan_with(MANY, sealed=True)
    seals = ((store(0), ("seal", 0, 0, (1, 7))), (store(1), ("seal", 0, 1, (1, 7))))

    def begun(self):
        library = Library(self.plan, 7)
        library.act(at(0), ("ask", 0))
        self.assertEqual(library.take(at(1), K0, ("grant", 0, (1, 7), 1)), ((), ()))
        self.assertEqual(library.take(at(2), K1, ("grant", 0, (1, 7), 1)), (self.seals, ()))
        return library

    def test_told_behind_the_last(self):
        library = self.begun()
        self.assertFalse(library.stands(0))
        self.assertEqual(library.take(at(3), K2, ("grant", 0, (1, 7), 1)), ((), ()))
        self.assertEqual(library.take(at(3), store(1), ("sealed", 0, 1, (1, 7))), ((), ()))
        self.assertEqual(library.take(at(3), store(1), ("sealed", 0, 1, (1, 7))), ((), ()))
        self.assertEqual(library.act(at(3), ("look", 0)), ((), (("look", 0, False),)))
        self.assertEqual(library.take(at(10), store(0), ("sealed", 0, 0, (1, 7))), ((), (("told", 0, (1, 7)),)))
        self.assertTrue(library.stands(0))
        self.assertEqual(library.take(at(10), store(0), ("sealed", 0, 0, (1, 7))), ((), ()))
        self.assertRaises(CanNot, library.act, at(10), ("not now", 0))

    def test_told_with_a_later_grant(self):
        library = self.begun()
        library.take(at(3), store(1), ("sealed", 0, 1, (1, 7)))
        self.assertEqual(library.take(at(11), store(0), ("sealed", 0, 0, (1, 7))), ((), ()))
        library.act(at(11), ("again", 0))
        self.assertEqual(library.take(at(12), K0, ("grant", 0, (1, 7), 2)), ((), ()))
        self.assertEqual(library.take(at(12), K1, ("grant", 0, (1, 7), 2)), ((), (("told", 0, (1, 7)),)))
        self.assertTrue(library.stands(0))

    def test_unsealed(self):
        library = self.begun()
        library.take(at(3), store(1), ("sealed", 0, 1, (1, 7)))
        self.assertEqual(library.take(at(3), store(0), ("unsealed", 0, 0, (1, 7), (6, 2))), ((), ()))
        self.assertEqual(library.take(at(3), store(0), ("sealed", 0, 0, (1, 7))), ((), ()))
        self.assertEqual(library.take(at(3), K2, ("grant", 0, (1, 7), 1)), ((), ()))
        self.assertEqual(standing(library, (0,)), [((1, 7), False, at(10))])
        for act in (("ask", 0), ("again", 0), ("release", 0)):
            self.assertRaises(CanNot, library.act, at(3), act)
        twin = library.twin()
        # its ask stays open: a new number, or not now
        self.assertEqual(library.act(at(3), ("anew", 0)), (to_all(self.plan, ("ask", 0, (7, 7), 2)), ()))
        self.assertEqual(twin.act(at(3), ("not now", 0)), (to_all(self.plan, ("release", 0, (1, 7))), (("not now", 0),)))
        self.assertEqual(twin.act(at(3), ("ask", 0)), (to_all(self.plan, ("ask", 0, (7, 7), 2)), (("ask", 0),)))

    def test_seals_of_elder_numbers(self):
        library = self.begun()
        library.act(at(3), ("anew", 0))
        self.assertEqual(library.take(at(3), store(0), ("unsealed", 0, 0, (1, 7), (6, 2))), ((), ()))
        for k in (K0, K1):
            letters = library.take(at(4), k, ("grant", 0, (2, 7), 2))
        self.assertEqual(letters, (tuple((store(place), ("seal", 0, place, (2, 7))) for place in (0, 1)), ()))
        for place in (0, 1):
            self.assertEqual(library.take(at(4), store(place), ("sealed", 0, place, (1, 7))), ((), ()))
        self.assertEqual(library.take(at(4), store(0), ("sealed", 0, 0, (2, 7))), ((), ()))
        self.assertEqual(library.take(at(4), store(1), ("sealed", 0, 1, (2, 7))), ((), (("told", 0, (2, 7)),)))
        # behind the telling an unsealed does nothing
        self.assertEqual(library.take(at(4), store(0), ("unsealed", 0, 0, (2, 7), (9, 2))), ((), ()))
        self.assertTrue(library.stands(0))

    def test_behind_its_end(self):
        library = self.begun()
        library.act(at(3), ("not now", 0))
        for place in (0, 1):
            self.assertEqual(library.take(at(4), store(place), ("sealed", 0, place, (1, 7))), ((), ()))
        self.assertFalse(library.stands(0))

    def test_not_sealed(self):
        library = told_one(MANY)
        for letter in (("sealed", 0, 0, (1, 7)), ("unsealed", 0, 0, (1, 7), (9, 9))):
            self.assertEqual(library.take(at(3), store(0), letter), ((), ()))
            self.assertTrue(library.stands(0))


class Errors(unittest.TestCase):
    def test_unfit_ahead_and_nothing_changed(self):
        library = told_one()
        before = standing(library)
        for act in (("ask", 0), ("ask", 1), ("release", 0), ("send",), ("look", 0), ("anew", 0)):
            self.assertRaises(Unfit, library.act, (19, 10), act)
            self.assertEqual(standing(library), before)
        for letter in (("grant", 0, (1, 7), 1), ("refused", 0, (9, 9))):
            self.assertRaises(Unfit, library.take, (19, 10), K0, letter)
        for act in (("ask", 0), ("send",), ("anew", 0), ("not now", 0)):
            self.assertRaises(CanNot, library.act, at(50), act)
        # neither their readings nor their letters stay
        self.assertEqual(library.act(at(2), ("look", 0)), ((), (("look", 0, True),)))
        self.assertEqual(library.act(at(2), ("ask", 1))[0], to_all(LONE, ("ask", 1, (1, 7), 2)))
        library.act(at(2), ("release", 0))
        self.assertEqual(library.act(at(2), ("ask", 0))[0], to_all(LONE, ("ask", 0, (2, 7), 3)))
        first = Library(LONE, 7)
        first.act((-9, 2), ("look", 0))
        self.assertRaises(Unfit, first.act, (-14, 3), ("look", 0))


class Twins(unittest.TestCase):
    def test_goes_on_by_itself(self):
        library = told_one(plan_with(LONE, releases="waits"))
        library.act(at(3), ("deed", 0, 0, ("get",)))
        twin = library.twin()
        self.assertEqual(standing(twin), standing(library))
        deed = ("deed", 0, 0, (1, 7), 2, ("get",))
        for one in (twin, library):
            self.assertRaises(Unfit, one.act, at(2), ("send",))
            self.assertEqual(one.act(at(3), ("send",)), (((store(0), deed),), ()))
        twin.act(at(4), ("release", 0))
        self.assertEqual((twin.stands(0), library.stands(0)), (False, True))
        third = twin.twin()
        release = to_all(LONE, ("release", 0, (1, 7)))
        self.assertEqual(third.take(at(4), store(0), ("done", 0, 0, 2, 0)), (release, (("done", 0, 0, 2, 0),)))
        self.assertEqual(twin.take(at(4), store(0), ("done", 0, 0, 2, 0)), (release, (("done", 0, 0, 2, 0),)))
        self.assertEqual(library.take(at(4), store(0), ("done", 0, 0, 2, 0)), ((), (("done", 0, 0, 2, 0),)))
        library.act(at(20), ("again", 0))
        library.take(at(20), K0, ("grant", 0, (1, 7), 3))
        twin.act(at(4), ("ask", 0))
        twin.act(at(4), ("ask", 1))
        self.assertEqual((library.last(0), twin.last(0), third.last(0)), (at(30), None, at(10)))
        self.assertEqual((library.number(1), twin.number(1), third.number(1)), (None, (1, 7), None))

    def test_sealed_twin(self):
        library = Sealed().begun()
        twin = library.twin()
        for place in (0, 1):
            library.take(at(3), store(place), ("sealed", 0, place, (1, 7)))
        self.assertEqual((library.stands(0), twin.stands(0)), (True, False))
        twin.take(at(3), store(0), ("sealed", 0, 0, (1, 7)))
        self.assertEqual(twin.take(at(3), store(1), ("sealed", 0, 1, (1, 7))), ((), (("told", 0, (1, 7)),)))


class Lists(unittest.TestCase):
    def test_lists_and_names(self):
        plan = listed(LONE)
        library = Library(plan=plan, client=7)
        plan[4][0] = [1, 1]
        plan[0].append([0, 1])
        self.assertEqual(repr(library.act(reading=[0, 1], act=["ask", 0])), repr(((((K0), ("ask", 0, (1, 7), 1)),), (("ask", 0),))))
        letter = ["grant", 0, [1, 7], 1]
        before = copy.deepcopy(letter)
        self.assertEqual(repr(library.take(reading=[2, 1], house=["keeper", 0], letter=letter)), repr(((), (("told", 0, (1, 7)),))))
        self.assertEqual(letter, before)
        self.assertEqual(repr((library.number(lock=0), library.stands(lock=0), library.last(lock=0))), repr(((1, 7), True, (10, 1))))
        act = ["deed", 0, 0, ["put", 3]]
        deed = ("deed", 0, 0, (1, 7), 2, ("put", 3))
        self.assertEqual(repr(library.act([3, 1], act)), repr(((), (deed,))))
        act[3][1] = 4
        self.assertEqual(repr(library.act([3, 1], ["send"])), repr((((store(0), deed),), ())))
        self.assertEqual(repr(library.take([3, 1], ["store", 0, 0], ["stale", 0, 0, 2, [5, 1]])), repr(((), (("stale", 0, 0, 2),))))


class ByFacts(unittest.TestCase):
    """Against tests.facts: rows of events by chance, for PLANS of all kinds."""

    def plans(self):
        for counts, releases, sealed in itertools.product(("sent", "taken"), ("once", "waits"), (True, False)):
            for faults in ((), ("bare grant",)):
                if not (sealed and faults):
                    plan = plan_with(MANY, counts=counts, releases=releases, sealed=sealed, faults=faults, term=at(7))
                    assert is_plan(plan)
                    yield plan

    def test_by_chance(self):
        chance = random.Random(51)
        heard = {}
        for plan in self.plans():
            for _ in range(9):
                self.walk(chance, plan, heard)
        words = ["ask", "told", "released", "not now", "deed", "not held", "done", "stale", "look"]
        for word in words:
            self.assertGreater(sum(heard.get((plan, word), 0) for plan in self.plans()), 20, word)
        for plan in self.plans():
            self.assertGreater(heard.get((plan, "told"), 0), 0, plan[4])

    def walk(self, chance, plan, heard):
        library, facts = Library(plan, 3), Facts(plan, 3)
        reading, keepers, sent = at(0), [Keeper(plan, k) for k in range(4)], []
        for _ in range(130):
            if chance.random() < 0.2:
                reading = plus(reading, (chance.randint(1, 3), 2))
            if chance.random() < 0.02:
                library = library.twin()
            event = self.event(chance, sent, library)
            wanted, found = self.told(facts, reading, event), self.told(library, reading, event)
            self.assertEqual(found, wanted, event)
            if found is not None:
                for house, letter in found[0]:
                    sent.extend(self.answers(chance, plan, keepers, reading, house, letter))
                for entry in found[1]:
                    heard[plan, entry[0]] = heard.get((plan, entry[0]), 0) + 1
            for lock in (0, 1):
                self.assertEqual((library.number(lock), library.stands(lock), library.last(lock)),
                                 (facts.number(lock), facts.stands(lock), facts.last(lock)))

    def told(self, one, reading, event):
        try:
            return one.take(reading, *event[1:]) if event[0] == "take" else one.act(reading, event)
        except CanNot:
            return None

    def event(self, chance, sent, library):
        lock = chance.choice((0, 0, 1))
        if chance.random() < 0.25:
            return ("send",)
        if sent and chance.random() < (0.5 if library.stands(lock) else 0.85):
            return ("take",) + chance.choice(sent[-12:])
        if library.stands(lock) and chance.random() < 0.6:
            return ("deed", lock, chance.choice((0, 1)), chance.choice((("get",), ("put", 3))))
        words = ("ask", "ask", "ask", "again", "anew", "not now", "release", "look")
        return chance.choice([(word, lock) for word in words] + [("deed", lock, 0, ("get",))])

    def answers(self, chance, plan, keepers, reading, house, letter):
        """What a keeper or a store might send behind this letter."""
        if house[0] == "keeper":
            if chance.random() < 0.1:
                yield house, ("refused", letter[1], (chance.randint(0, 9), 5))
            for answer in keepers[house[1]].take(reading, letter):
                yield house, answer
        elif letter[0] == "seal":
            yield house, ("sealed",) + letter[1:]
            if chance.random() < 0.05:
                yield house, ("unsealed",) + letter[1:] + ((letter[3][0] + 1, 9),)
        else:
            if chance.random() < 0.6:
                yield house, ("done", letter[1], letter[2], letter[4], chance.randint(-3, 3))
            if chance.random() < 0.3:
                yield house, ("stale", letter[1], letter[2], letter[4], (letter[3][0] + 1, 9))


class Together(unittest.TestCase):
    """Clients, a keeper and letters that take one tick or two, by clocks that go alike."""

    def late_looks(self, plan, seed):
        """How often in a row of events a look was True though a greater number had been told."""
        chance, late, greatest = random.Random(seed), 0, (0, 0)
        clients, keeper, post = [Library(plan, c) for c in range(3)], Keeper(plan, 0), []
        for half in range(400):
            now = (half, 2) if half % 2 else (half // 2, 1)
            due = [letter for letter in post if letter[0] <= half]
            post = [letter for letter in post if letter[0] > half]
            for _, start, goal, letter in due:
                if goal == K0:
                    sent, told = [(("client", letter[2][1]), answer) for answer in keeper.take(now, letter)], ()
                else:
                    sent, told = clients[goal[1]].take(now, start, letter)
                if told and told[0][0] == "told":
                    self.assertLess(greatest, told[0][2])
                    greatest = told[0][2]
                post += [(half + chance.choice((2, 3, 4)), goal, house, answer) for house, answer in sent]
            for c, client in enumerate(clients):
                act = ("look", 0) if client.stands(0) else chance.choice((("ask", 0), ("again", 0), ("anew", 0), ("look", 0)))
                try:
                    sent, told = client.act(now, act)
                except CanNot:
                    continue
                post += [(half + chance.choice((2, 3, 4)), ("client", c), house, letter) for house, letter in sent]
                late += told == (("look", 0, True),) and client.number(0) < greatest
        self.assertGreater(greatest, (3, 0))
        return late

    def test_long_enough_a_length(self):
        sure = changed(LONE, ("length", 0), (17, 2))
        self.assertEqual([self.late_looks(sure, seed) for seed in range(20)], [0] * 20)

    def test_too_short_a_length(self):
        self.assertGreater(max(self.late_looks(changed(LONE, ("length", 0), at(4)), seed) for seed in range(20)), 0)


if __name__ == "__main__":
    unittest.main()
