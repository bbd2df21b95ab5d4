"""[9]: what a keeper writes down, and class Keeper."""

import itertools
import random
import unittest

from plainlock.errors import NoPlace, Unfit
from plainlock.fractions import less, minus, plus
from plainlock.keepers import Keeper, asked, fallen, free_from, kept_for, let_go
from plainlock.plans import changed
from tests.helping import LONE, at, check_call, listed

# keeper 0 lapses alone; 1 forgets the holder, 2 lends for ever, 3 both
FOUR = (((0, 1, 2, 3),), (((8, 1), "all", (7, 1)), ((8, 1), "number", (5, 1)), (None, "all", (5, 1)), (None, "number", (5, 1)))) + LONE[2:]
NEW = (None, None, None, None)
A, B, C = (1, 0), (1, 1), (2, 0)


def with_faults(*words):
    return changed(FOUR, ("faults",), tuple(sorted(words)))


class Asked(unittest.TestCase):
    def test_first(self):
        self.assertEqual(asked(FOUR, 0, NEW, A, at(3)), (True, (A, A, at(11), None)))
        self.assertEqual(asked(FOUR, 2, NEW, A, at(3)), (True, (A, A, None, None)))
        self.assertEqual(asked(FOUR, 0, NEW, (1, 0), (-7, 2)), (True, (A, A, (9, 2), None)))

    def test_while_held(self):
        held = (A, A, at(11), None)
        for reading in (at(3), at(0), (109, 10)):
            self.assertEqual(asked(FOUR, 0, held, B, reading), (False, held))
            self.assertEqual(asked(FOUR, 0, held, (9, 9), reading), (False, held))
        self.assertEqual(asked(FOUR, 0, held, B, at(11)), (True, (B, B, at(19), None)))
        self.assertEqual(asked(FOUR, 0, held, B, at(30)), (True, (B, B, at(38), None)))
        for_ever = (A, A, None, None)
        self.assertEqual(asked(FOUR, 2, for_ever, B, at(10 ** 9)), (False, for_ever))

    def test_renewal(self):
        held = (A, A, at(11), None)
        self.assertEqual(asked(FOUR, 0, held, A, at(5)), (True, (A, A, at(13), None)))
        # behind the lapse, and where a greater one was granted meanwhile and let go
        self.assertEqual(asked(FOUR, 0, held, A, at(50)), (True, (A, A, at(58), None)))
        self.assertEqual(asked(FOUR, 0, (C, A, at(11), None), A, at(5)), (True, (C, A, at(13), None)))

    def test_only_greater_ones(self):
        free = (B, None, None, None)
        for number in (A, B, (0, 7), (1, 1)):
            self.assertEqual(asked(FOUR, 0, free, number, at(5)), (False, free))
        for number in (C, (1, 2), (2, 0)):
            self.assertEqual(asked(FOUR, 0, free, number, at(5)), (True, (number, number, at(13), None)))
        lapsed = (B, B, at(4), None)
        self.assertEqual(asked(FOUR, 0, lapsed, A, at(5)), (False, lapsed))
        self.assertEqual(asked(FOUR, 0, lapsed, C, at(5)), (True, (C, C, at(13), None)))
        self.assertEqual(asked(FOUR, 0, lapsed, C, at(4)), (True, (C, C, at(12), None)))
        self.assertEqual(asked(FOUR, 0, lapsed, C, (39, 10)), (False, lapsed))

    def test_quiet(self):
        for record in ((A, None, None, at(6)), (A, A, at(9), at(6)), (None, None, None, at(6))):
            for number in (A, C):
                self.assertEqual(asked(FOUR, 1, record, number, (59, 10)), (False, record))
        self.assertEqual(asked(FOUR, 1, (A, None, None, at(6)), C, at(6)), (True, (C, C, at(14), at(6))))
        self.assertEqual(asked(FOUR, 1, (A, A, at(9), at(6)), A, at(6)), (True, (A, A, at(14), at(6))))
        self.assertEqual(asked(FOUR, 1, (A, None, None, at(6)), A, at(9)), (False, (A, None, None, at(6))))

    def test_revives(self):
        plan = with_faults("revives")
        free, held = (C, None, None, None), (C, C, at(11), None)
        self.assertEqual(asked(plan, 0, free, A, at(5)), (True, (C, A, at(13), None)))
        self.assertEqual(asked(plan, 0, free, C, at(5)), (True, (C, C, at(13), None)))
        self.assertEqual(asked(plan, 0, free, (9, 9), at(5)), (True, ((9, 9), (9, 9), at(13), None)))
        self.assertEqual(asked(plan, 0, held, A, at(10)), (False, held))
        self.assertEqual(asked(plan, 0, held, A, at(11)), (True, (C, A, at(19), None)))
        self.assertEqual(asked(plan, 0, (C, None, None, at(6)), A, at(5)), (False, (C, None, None, at(6))))
        for fault in ("bare grant", "bare release", "forgets"):
            self.assertEqual(asked(with_faults(fault), 0, free, A, at(5)), (False, free))
            self.assertEqual(asked(with_faults(fault), 0, free, C, at(5)), (False, free))


class Released(unittest.TestCase):
    def test_let_go(self):
        for plan in [FOUR] + [with_faults(fault) for fault in ("bare grant", "forgets", "revives")]:
            for until, quiet in itertools.product((None, at(11)), (None, at(6))):
                held = (C, A, until, quiet)
                self.assertEqual(let_go(plan, 0, held, A), (C, None, None, quiet))
                for other in (B, C, (2, 0), (3, 0)):
                    self.assertEqual(let_go(plan, 0, held, other), held)
        for record in (NEW, (A, None, None, None)):
            self.assertEqual(let_go(FOUR, 0, record, A), record)

    def test_bare_release(self):
        plan = with_faults("bare release")
        held = (B, A, at(11), at(6))
        for number in (A, (7, 0), (0, 0)):
            self.assertEqual(let_go(plan, 0, held, number), (B, None, None, at(6)))
        for number in (B, (1, 2), (7, 1)):
            self.assertEqual(let_go(plan, 0, held, number), held)
        for record in (NEW, (A, None, None, None)):
            self.assertEqual(let_go(plan, 0, record, A), record)


class Fallen(unittest.TestCase):
    def test_all(self):
        for keeper in (0, 2):
            for record in (NEW, (C, A, at(11), None), (C, A, None, at(40)), (C, None, None, None)):
                for plan in [FOUR] + [with_faults(fault) for fault in ("bare grant", "bare release", "revives")]:
                    self.assertEqual(fallen(plan, keeper, record, at(6)), record)

    def test_number(self):
        for keeper in (1, 3):
            for record in ((C, A, at(11), None), (C, A, None, at(40)), (C, None, None, None)):
                for plan in [FOUR] + [with_faults(fault) for fault in ("bare grant", "bare release", "revives")]:
                    self.assertEqual(fallen(plan, keeper, record, at(6)), (C, None, None, at(11)))
            self.assertEqual(fallen(FOUR, keeper, NEW, at(6)), (None, None, None, at(11)))

    def test_forgets(self):
        plan = with_faults("forgets")
        for keeper, quiet in ((0, 13), (1, 11), (2, 11), (3, 11)):
            for record in (NEW, (C, A, at(11), None), (C, A, None, at(40))):
                self.assertEqual(fallen(plan, keeper, record, at(6)), (None, None, None, at(quiet)))


class Edges(unittest.TestCase):
    def test_free_from(self):
        cases = [
            (NEW, at(4), at(4)), ((A, None, None, None), at(4), at(4)), ((A, A, at(11), None), at(4), at(11)), ((A, A, at(11), None), at(11), at(11)),
            ((A, A, at(11), None), at(12), at(12)), ((A, A, None, None), at(4), None), ((A, A, None, at(9)), at(40), None),
            ((A, None, None, at(6)), at(4), at(6)), ((A, None, None, at(6)), at(7), at(7)), ((A, A, at(11), at(6)), at(4), at(11)),
            ((A, A, at(11), at(16)), at(4), at(16)), ((A, A, at(11), at(16)), (33, 2), (33, 2)),
        ]
        for plan in (FOUR, with_faults("revives", "forgets", "bare release")):
            for record, reading, wanted in cases:
                self.assertEqual(free_from(plan, 1, record, reading), wanted)
                if wanted is not None:
                    self.assertTrue(asked(plan, 1, record, (50, 0), wanted)[0])
                    if wanted != reading:
                        self.assertFalse(asked(plan, 1, record, (50, 0), minus(wanted, (1, 10 ** 9)))[0])

    def test_kept_for(self):
        self.assertEqual([kept_for(FOUR, k) for k in range(4)], [at(8), at(5), None, at(5)])
        self.assertEqual([kept_for(with_faults("forgets"), k) for k in range(4)], [at(7), at(5), at(5), at(5)])
        for fault in ("bare grant", "bare release", "revives"):
            self.assertEqual([kept_for(with_faults(fault), k) for k in range(4)], [at(8), at(5), None, at(5)])
        self.assertEqual(kept_for(changed(FOUR, ("grace", 1), at(9)), 1), at(8))
        self.assertEqual(kept_for(changed(FOUR, ("grace", 1), at(0)), 1), at(0))

    def test_kept_for_holds(self):
        """No row of asks and falls grants another number sooner, and some just then."""
        chance = random.Random(41)
        for plan in (FOUR, with_faults("forgets"), with_faults("revives")):
            for keeper in range(4):
                waits = [self.wait(chance, plan, keeper) for _ in range(400)]
                least = None
                for reading in waits:
                    if reading is not None and (least is None or less(reading, least)):
                        least = reading
                self.assertEqual(least, kept_for(plan, keeper))

    def wait(self, chance, plan, keeper):
        """The reading at which another number is granted, in a row of asks and falls; None if it ends without."""
        record, reading = asked(plan, keeper, NEW, A, at(0))[1], at(0)
        while less(reading, at(40)):
            reading = plus(reading, chance.choice((at(0), (1, 2), at(5), at(7), at(8))))
            if chance.random() < 0.4:
                record = fallen(plan, keeper, record, reading)
            else:
                granted, record = asked(plan, keeper, record, (9, 9), reading)
                if granted:
                    return reading
        return None

    def test_no_place_ahead_of_all(self):
        held = (A, A, at(11), None)
        for keeper in (4, -1, 10 ** 9):
            calls = [
                lambda: asked(FOUR, keeper, held, A, at(3)), lambda: let_go(FOUR, keeper, held, A), lambda: fallen(FOUR, keeper, held, at(3)),
                lambda: free_from(FOUR, keeper, held, at(3)), lambda: kept_for(FOUR, keeper), lambda: Keeper(FOUR, keeper),
            ]
            for call in calls:
                with self.assertRaises(NoPlace) as caught:
                    call()
                self.assertEqual(caught.exception.place, keeper)


class Keepers(unittest.TestCase):
    def test_several_locks(self):
        keeper = Keeper(FOUR, 0)
        self.assertEqual(keeper.record(5), NEW)
        self.assertEqual(keeper.take(at(0), ("ask", 0, A, 7)), [("grant", 0, A, 7)])
        self.assertEqual(keeper.take(at(1), ("ask", 1, B, 8)), [("grant", 1, B, 8)])
        self.assertEqual(keeper.take(at(2), ("ask", 0, C, 3)), [("refused", 0, A)])
        self.assertEqual(keeper.record(0), (A, A, at(8), None))
        self.assertEqual(keeper.record(1), (B, B, at(9), None))
        self.assertEqual(keeper.take(at(2), ("release", 0, A)), [])
        self.assertEqual((keeper.record(0), keeper.record(1)), ((A, None, None, None), (B, B, at(9), None)))
        self.assertEqual(keeper.take(at(2), ("ask", 0, A, 9)), [("refused", 0, A)])
        self.assertEqual(keeper.take(at(2), ("ask", 0, C, 9)), [("grant", 0, C, 9)])
        self.assertEqual(keeper.take(at(9), ("ask", 1, (0, 0), 9)), [("refused", 1, B)])
        self.assertEqual(keeper.take(at(9), ("ask", 1, C, 9)), [("grant", 1, C, 9)])

    def test_refused_at_first(self):
        keeper = Keeper(FOUR, 1)
        self.assertIsNone(keeper.fall(at(0)))
        self.assertEqual(keeper.take(at(4), ("ask", 3, A, 1)), [("refused", 3, None)])
        self.assertEqual(keeper.take(at(5), ("ask", 3, A, 1)), [("grant", 3, A, 1)])

    def test_bare_grant(self):
        keeper = Keeper(with_faults("bare grant"), 0)
        self.assertEqual(keeper.take(at(0), ("ask", 4, A, 7)), [("grant", 4)])
        self.assertEqual(keeper.take(at(0), ("ask", 4, B, 7)), [("refused", 4, A)])
        self.assertEqual(keeper.record(4), (A, A, at(8), None))

    def test_fall_of_all_locks(self):
        keeper = Keeper(FOUR, 1)
        keeper.take(at(0), ("ask", 0, A, 1))
        keeper.take(at(0), ("ask", 1, B, 1))
        keeper.fall(at(2))
        self.assertEqual([keeper.record(lock) for lock in range(3)],
                         [(A, None, None, at(7)), (B, None, None, at(7)), (None, None, None, at(7))])
        # a lock that was not heard of yet is quiet, too
        self.assertEqual(keeper.take(at(6), ("ask", 2, A, 1)), [("refused", 2, None)])
        self.assertEqual(keeper.take(at(7), ("ask", 2, A, 1)), [("grant", 2, A, 1)])
        keeper.fall(at(8))
        self.assertEqual([keeper.record(lock) for lock in (2, 9)], [(A, None, None, at(13)), (None, None, None, at(13))])
        steady = Keeper(FOUR, 0)
        steady.take(at(0), ("ask", 0, A, 1))
        steady.fall(at(2))
        self.assertEqual([steady.record(0), steady.record(1)], [(A, A, at(8), None), NEW])

    def test_turn(self):
        keeper = Keeper(LONE, 0)
        keeper.take(at(0), ("ask", 0, A, 1))
        other = changed(changed(LONE, ("length", 0), at(3)), ("record", 0), "number")
        self.assertIsNone(keeper.turn(changed(other, ("grace", 0), at(2))))
        self.assertEqual(keeper.record(0), (A, A, at(8), None))
        self.assertEqual(keeper.take(at(1), ("ask", 0, A, 2)), [("grant", 0, A, 2)])
        self.assertEqual(keeper.record(0), (A, A, at(4), None))
        keeper.fall(at(2))
        self.assertEqual((keeper.record(0), keeper.record(1)), ((A, None, None, at(4)), (None, None, None, at(4))))
        keeper.turn(LONE)
        self.assertEqual(keeper.take(at(3), ("ask", 0, B, 2)), [("refused", 0, A)])
        self.assertEqual(keeper.take(at(4), ("ask", 0, B, 2)), [("grant", 0, B, 2)])
        self.assertEqual(keeper.record(0), (B, B, at(12), at(4)))
        self.assertRaises(Unfit, keeper.fall, at(3))

    def test_unfit_changes_nothing(self):
        keeper = Keeper(FOUR, 1)
        keeper.take(at(5), ("ask", 0, A, 1))
        for call in (lambda: keeper.take((49, 10), ("ask", 0, C, 1)), lambda: keeper.take(at(0), ("release", 0, A)),
                     lambda: keeper.take(at(4), ("ask", 1, C, 1)), lambda: keeper.fall((49, 10))):
            self.assertRaises(Unfit, call)
            self.assertEqual([keeper.record(lock) for lock in (0, 1)], [(A, A, at(13), None), NEW])
        keeper.fall(at(5))
        self.assertRaises(Unfit, keeper.take, (49, 10), ("ask", 0, C, 1))
        self.assertEqual(keeper.take(at(5), ("release", 0, A)), [])
        self.assertEqual(keeper.record(0), (A, None, None, at(10)))
        first = Keeper(FOUR, 0)
        self.assertEqual(first.take(at(-50), ("ask", 0, A, 1)), [("grant", 0, A, 1)])
        self.assertRaises(Unfit, first.take, at(-51), ("ask", 0, A, 1))
        self.assertEqual(first.take(at(-50), ("ask", 0, A, 1)), [("grant", 0, A, 1)])

    def test_a_fall_tells_its_reading(self):
        keeper = Keeper(FOUR, 0)
        keeper.take(at(1), ("ask", 0, A, 1))
        keeper.fall(at(5))
        for call in (lambda: keeper.take(at(4), ("ask", 0, A, 1)), lambda: keeper.fall(at(4))):
            self.assertRaises(Unfit, call)
        self.assertEqual(keeper.take(at(5), ("ask", 0, A, 1)), [("grant", 0, A, 1)])
        self.assertEqual(keeper.record(0), (A, A, at(13), None))

    def test_copies_and_lists(self):
        plan = listed(FOUR)
        keeper = Keeper(plan=plan, keeper=1)
        plan[1][1][0] = [1, 1]
        plan[6].append("bare grant")
        letter = listed(("ask", 0, A, 1))
        answer = keeper.take(reading=[0, 1], letter=letter)
        self.assertEqual(repr(answer), repr([("grant", 0, A, 1)]))
        self.assertEqual(letter, ["ask", 0, [1, 0], 1])
        answer.append("x")
        letter[2][0] = 9
        self.assertEqual(repr(keeper.record(lock=0)), repr((A, A, at(8), None)))
        keeper.fall(reading=[1, 1])
        self.assertEqual(repr(keeper.record(0)), repr((A, None, None, at(6))))
        keeper.turn(plan=listed(LONE[:1] + FOUR[1:]))
        self.assertEqual(repr(keeper.take([2, 1], ["release", 0, [1, 0]])), "[]")

    def test_two_side_by_side(self):
        one, other = Keeper(FOUR, 0), Keeper(FOUR, 0)
        one.take(at(5), ("ask", 0, A, 1))
        self.assertEqual(other.record(0), NEW)
        self.assertEqual(other.take(at(0), ("ask", 0, B, 1)), [("grant", 0, B, 1)])


class Calls(unittest.TestCase):
    def test_every_call(self):
        for plan in (FOUR, with_faults("bare release"), with_faults("forgets")):
            for record in (NEW, (A, A, at(11), None), (A, A, None, at(6))):
                for keeper in (0, 1, 9):
                    for number, reading in ((A, at(3)), (B, at(11)), (C, (21, 2))):
                        check_call(self, asked, ("plan", "keeper", "record", "number", "reading"), (plan, keeper, record, number, reading))
                        check_call(self, let_go, ("plan", "keeper", "record", "number"), (plan, keeper, record, number))
                        check_call(self, fallen, ("plan", "keeper", "record", "reading"), (plan, keeper, record, reading))
                        check_call(self, free_from, ("plan", "keeper", "record", "reading"), (plan, keeper, record, reading))
                    check_call(self, kept_for, ("plan", "keeper"), (plan, keeper))


if __name__ == "__main__":
    unittest.main()
