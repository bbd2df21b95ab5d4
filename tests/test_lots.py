"""[13]: LOTS, TICKET RUNS, ORDERS and CIRCLES."""

import itertools
import random
import unittest

from plainlock.errors import CanNot, Unfit
from plainlock.lots import (
    better, circle_of, circle_run, cover, fewest_apart, had, is_circle, is_roster, is_ticket_run, meets, not_meeting, order_of,
    roster_for, shared, ticket_rows)
from tests.helping import check_call

TWO_OF = ((0, 1), (0, 2), (1, 2))
GRANTS = (("grant", 0, 0), ("grant", 0, 1), ("grant", 1, 0), ("grant", 1, 2))
HOLDS = (0, 1)


def subsets(many):
    return [some for size in range(many + 1) for some in itertools.combinations(range(many), size)]


def drawn_roster(draw, keepers, most):
    return tuple(sorted({draw.choice(subsets(keepers)[1:]) for _ in range(draw.randint(1, most))}))


def drawn_set(draw, keepers):
    return tuple(k for k in range(keepers) if draw.random() < 0.6)


def drawn_ticket_run(draw, roster, kept, many=60):
    holds = tuple(draw.randrange(len(roster)) for _ in range(draw.randint(0, 6)))
    left = {hold: list(roster[place]) for hold, place in enumerate(holds)}
    steps = []
    while len(steps) < many and (any(left.values()) or draw.random() < 0.9):
        roll = draw.random()
        waiting = [hold for hold in left if left[hold]]
        ready = [hold for hold in left if not left[hold]]
        loose = [k for k in range(7) if k not in kept]
        if roll < 0.1 and loose:
            steps.append(("forget", draw.choice(loose)))
        elif roll < 0.6 and ready:
            steps.append(("deed", draw.choice(ready), draw.randint(0, 2)))
        elif waiting:
            hold = draw.choice(waiting)
            steps.append(("grant", hold, left[hold].pop(draw.randrange(len(left[hold])))))
        elif not ready and not loose:
            break
    for hold in left:
        steps.extend(("grant", hold, keeper) for keeper in left[hold])
    return (holds, tuple(steps))


def rows_again(roster, run):
    """The DEED ROWS, each deed read off all steps ahead of it."""
    holds, steps = run
    tickets = {}
    for at, step in enumerate(steps):
        if step[0] == "grant":
            counter = 0
            for other in steps[:at + 1]:
                if other == ("forget", step[2]):
                    counter = 0
                elif other[0] == "grant" and other[2] == step[2]:
                    counter += 1
            tickets[step[1:]] = counter
    rows = [[] for _ in range(max((step[2] + 1 for step in steps if step[0] == "deed"), default=0))]
    for step in steps:
        if step[0] == "deed":
            row = rows[step[2]]
            lot = roster[holds[step[1]]]
            if all(tickets[step[1], keeper] >= tickets[other, keeper] for other in row for keeper in lot if keeper in roster[holds[other]]):
                row.append(step[1])
    return tuple(map(tuple, rows))


def orders(rows):
    """All ORDERS, by trying each."""
    holds = sorted({hold for row in rows for hold in row})
    for order in itertools.permutations(holds):
        if not any(order.index(one) > order.index(other) for row in rows for one, other in itertools.combinations(row, 2)):
            yield order


class Forms(unittest.TestCase):
    def test_is_roster(self):
        for thing in (((0,),), TWO_OF, ((6,),), ((0,), (0, 1)), tuple(sorted(subsets(7)[1:]))):
            self.assertIs(is_roster(thing), True)
        for thing in ((), ((),), ((0, 0),), ((1, 0),), ((0,), (0,)), ((1,), (0,)), ((7,),), ((-1,),), ((True,),), ((None,),), (0,), [(0,)],
                      ([0],), (("0",),), None, 0, "", ((0,), None)):
            self.assertIs(is_roster(thing), False, thing)
        check_call(self, is_roster, ("thing",), (TWO_OF,), things=(0,))

    def test_is_ticket_run(self):
        for steps in (GRANTS, GRANTS[::-1], GRANTS + (("deed", 0, 0), ("deed", 0, 19), ("deed", 1, 0), ("forget", 2)),
                      (("forget", 6), ("forget", 2)) + GRANTS[:2] + (("deed", 0, 3),) + GRANTS[2:] + (("forget", 2),)):
            self.assertIs(is_ticket_run(TWO_OF, (0, 1), (HOLDS, steps)), True, steps)
        self.assertIs(is_ticket_run(TWO_OF, (0, 1), ((), ())), True)
        self.assertIs(is_ticket_run(TWO_OF, (), ((), (("forget", 0),))), True)
        self.assertIs(is_ticket_run(TWO_OF, (0, 1), ((2, 2), tuple(("grant", h, k) for h in (0, 1) for k in (1, 2)))), True)

    def test_each_condition_by_itself(self):
        good = GRANTS + (("deed", 0, 0),)
        for steps in (
                good + (("grant", 0, 0),), good[1:], good[:2], GRANTS[:1] + (("deed", 0, 0),) + GRANTS[1:], good + (("forget", 0),),
                good + (("forget", 7),), good + (("forget", -1),), good + (("forget", True),), good + (("deed", 2, 0),),
                good + (("deed", 0, 20),), good + (("deed", 0, -1),), good + (("deed", -1, 0),), good + (("deed", True, 0),),
                good + (("deed", 0, True),), good + (("grant", 0, 2),), good + (("grant", 2, 0),), good + (("grant", -1, 0),),
                good + (("fall", 2),), good + (("forget", 2, 0),), good + (("deed", 0),), good + ((),), good + (None,), good + (0,),
                good + (["forget", 2],), list(good), None, 0, (("grant", 0, 0), ("grant", 0, 0)) + GRANTS[2:]):
            self.assertIs(is_ticket_run(TWO_OF, (0, 1), (HOLDS, steps)), False, steps)
        for holds in ((0, 3), (0, -1), (0, None), (False, True), [0, 1], (0,), (0, 1, 1), 0, None):
            self.assertIs(is_ticket_run(TWO_OF, (0, 1), (holds, good)), False, holds)
        for thing in (None, 0, (), (HOLDS,), (HOLDS, good, ()), [HOLDS, good], "ab"):
            self.assertIs(is_ticket_run(TWO_OF, (0, 1), thing), False, thing)
        check_call(self, is_ticket_run, ("roster", "kept", "thing"), (TWO_OF, (0, 1), (HOLDS, good)), things=(2,))

    def test_is_circle(self):
        rows = ((0, 1), (1, 2), (2, 9, 0))
        for thing in ((0, 1, 2), (1, 2, 0), (2, 0, 1), (1, 2, 9, 0)):
            self.assertIs(is_circle(rows, thing), True)
        for thing in ((), (0,), (0, 1), (2, 1, 0), (0, 1, 2, 0), (0, 1, 2, 0, 1, 2), (0, 1, 2, 3), [0, 1, 2], None, 0, (False, True, 2),
                      (0, 1, None), (0, (1,), 2), (0, 9)):
            self.assertIs(is_circle(rows, thing), False, thing)
        self.assertIs(is_circle(((4, 5, 4),), (4, 5)), True)
        self.assertIs(is_circle(((4, 5), (5, 4)), (5, 4)), True)
        self.assertIs(is_circle(((4, 4),), (4,)), False)
        self.assertIs(is_circle((), (0, 1)), False)
        check_call(self, is_circle, ("rows", "thing"), (rows, (0, 1, 2)), things=(1,))


class Meeting(unittest.TestCase):
    def test_shared(self):
        self.assertEqual(shared((0, 1, 3), (1, 3, 4), (0, 1, 2, 3)), (1, 3))
        self.assertEqual(shared((0, 1), (1,), ()), ())
        self.assertEqual(shared((0, 1), (2,), (0, 1, 2)), ())
        check_call(self, shared, ("one", "other", "kept"), ((0, 1, 3), (1, 3, 4), (1, 2)))

    def test_by_hand(self):
        self.assertEqual(not_meeting(((0,),), ()), ((0,), (0,)))
        self.assertEqual(not_meeting(((0, 1), (2, 3)), (0, 2)), ((0, 1), (2, 3)))
        self.assertEqual(not_meeting(((0, 1), (0, 2), (1, 2)), (2,)), ((0, 1), (0, 1)))
        self.assertRaises(CanNot, not_meeting, TWO_OF, (0, 1, 2))
        self.assertIs(meets(TWO_OF, (0, 1, 2)), True)
        self.assertIs(meets(TWO_OF, (0, 1)), False)
        self.assertIs(had(TWO_OF, (0,)), True)
        self.assertIs(had(TWO_OF, (0, 2)), False)
        self.assertIs(had(TWO_OF, ()), True)
        for call, given in ((meets, (TWO_OF, (0, 1))), (not_meeting, (TWO_OF, (0, 1))), (not_meeting, (TWO_OF, (0, 1, 2))),
                            (fewest_apart, (TWO_OF, (0, 1)))):
            check_call(self, call, ("roster", "kept"), given)
        check_call(self, had, ("roster", "down"), (TWO_OF, (0, 2)))

    def test_beside_a_search(self):
        draw = random.Random(1)
        for _ in range(300):
            keepers = draw.randint(1, 5)
            roster, kept = drawn_roster(draw, keepers, 6), drawn_set(draw, keepers)
            pairs = [pair for pair in itertools.product(roster, roster) if pair[0] <= pair[1] and not set(pair[0]) & set(pair[1]) & set(kept)]
            self.assertIs(meets(roster, kept), not pairs)
            if pairs:
                self.assertEqual(not_meeting(roster, kept), min(pairs))
            else:
                self.assertRaises(CanNot, not_meeting, roster, kept)
            apart = [lots for size in range(1, len(roster) + 1) for lots in itertools.combinations(roster, size)
                     if not set(kept).intersection(*map(set, lots))]
            if apart:
                self.assertEqual(fewest_apart(roster, kept), min(lots for lots in apart if len(lots) == len(apart[0])))
            else:
                self.assertRaises(CanNot, fewest_apart, roster, kept)
                self.assertRaises(CanNot, circle_run, roster, kept)
            down = drawn_set(draw, keepers)
            self.assertIs(had(roster, down), any(not set(lot) & set(down) for lot in roster))


class Rows(unittest.TestCase):
    def test_tickets(self):
        """A deed is done exactly if none of its tickets is less than what the store keeps."""
        two = (((0,), (1,), (0, 1)))
        roster = tuple(sorted(two))
        holds = (roster.index((0,)), roster.index((1,)), roster.index((0, 1)))
        grants = (("grant", 0, 0), ("grant", 1, 1), ("grant", 2, 0), ("grant", 2, 1))
        run = (holds, grants + (("deed", 2, 0), ("deed", 0, 0), ("deed", 1, 0), ("deed", 2, 0), ("deed", 0, 1), ("deed", 1, 1), ("deed", 2, 1)))
        self.assertEqual(ticket_rows(roster, (0, 1), run), ((2, 2), (0, 1, 2)))
        # what a deed that was not done bore is not kept
        mixed = (("grant", 2, 0), ("grant", 0, 0), ("grant", 1, 1), ("grant", 2, 1))
        run = (holds, mixed + (("deed", 0, 0), ("deed", 2, 0), ("deed", 1, 0)))
        self.assertEqual(ticket_rows(roster, (0, 1), run), ((0, 1),))

    def test_forgets(self):
        roster = ((0,),)
        for forget, row in (((), (1,)), ((("forget", 0),), (1, 0))):
            run = ((0, 0), (("grant", 0, 0),) + forget + (("grant", 1, 0), ("deed", 1, 0), ("deed", 0, 0)))
            self.assertEqual(ticket_rows(roster, (), run), (row,))

    def test_rows_up_to_the_greatest_store(self):
        run = ((0, 0), (("grant", 0, 0), ("grant", 1, 0), ("deed", 1, 2), ("deed", 0, 2)))
        self.assertEqual(ticket_rows(((0,),), (0,), run), ((), (), (1,)))
        self.assertEqual(ticket_rows(((0,),), (0,), ((), ())), ())
        self.assertEqual(ticket_rows(((0,),), (0,), ((0,), (("grant", 0, 0), ("deed", 0, 3), ("deed", 0, 3)))), ((), (), (), (0, 0)))

    def test_unfit(self):
        for run in (((0,), ()), ((0,), (("grant", 0, 0), ("forget", 0))), ((1,), (("grant", 0, 0),)), None, ()):
            self.assertRaises(Unfit, ticket_rows, ((0,),), (0,), run)

    def test_drawn_runs(self):
        draw = random.Random(2)
        forgets = 0
        for _ in range(400):
            keepers = draw.randint(1, 4)
            roster, kept = drawn_roster(draw, keepers, 3), drawn_set(draw, keepers)
            run = drawn_ticket_run(draw, roster, kept, 40)
            forgets += any(step[0] == "forget" for step in run[1])
            self.assertTrue(is_ticket_run(roster, kept, run))
            rows = ticket_rows(roster, kept, run)
            self.assertEqual(rows, rows_again(roster, run))
            check_call(self, ticket_rows, ("roster", "kept", "run"), (roster, kept, run))
            self.check_one_of_both(rows)
            if set(kept).intersection(*map(set, roster)):
                order_of(rows)
        self.assertGreater(forgets, 100)

    def check_one_of_both(self, rows):
        wanted = next(orders(rows), None)
        if wanted is None:
            self.assertRaises(CanNot, order_of, rows)
            self.assertTrue(is_circle(rows, circle_of(rows)))
        else:
            self.assertEqual(order_of(rows), wanted)
            self.assertRaises(CanNot, circle_of, rows)

    def test_any_rows(self):
        draw = random.Random(3)
        for _ in range(500):
            numbers = [draw.randint(0, 50) for _ in range(draw.randint(1, 6))]
            rows = tuple(tuple(draw.choice(numbers) for _ in range(draw.randint(0, 4))) for _ in range(draw.randint(0, 4)))
            self.check_one_of_both(rows)
        self.assertEqual(order_of(()), ())
        self.assertEqual(order_of(((), (9, 9))), (9,))
        self.assertEqual(order_of(((5, 3), (4,))), (4, 5, 3))
        self.assertEqual(order_of(((5, 3), (4, 3), (2, 5))), (2, 4, 5, 3))
        check_call(self, order_of, ("rows",), (((5, 3), (4,)),))
        check_call(self, order_of, ("rows",), (((5, 3), (3, 5)),))
        check_call(self, circle_of, ("rows",), (((5, 3), (3, 4), (4, 5, 1)),))
        check_call(self, circle_of, ("rows",), (((5, 3),),))

    def test_long_rows(self):
        rows = tuple(tuple(range(20 * k, 20 * k + 60)) for k in range(20))
        self.assertEqual(order_of(rows), tuple(range(440)))
        self.assertTrue(is_circle(rows + ((439, 0),), circle_of(rows + ((439, 0),))))


class Circles(unittest.TestCase):
    def check(self, roster, kept):
        run = circle_run(roster, kept)
        self.assertTrue(is_ticket_run(roster, kept, run))
        rows = ticket_rows(roster, kept, run)
        many = max(2, len(fewest_apart(roster, kept)))
        self.assertEqual(len(run[0]), many)
        self.assertTrue(any(is_circle(rows, some) for some in itertools.permutations(range(many)))
                        if many < 7 else is_circle(rows, tuple(range(many))))

    def test_all_small_rosters(self):
        lots = subsets(3)[1:]
        for size in range(1, 4):
            for roster in itertools.combinations(sorted(lots), size):
                for kept in subsets(3):
                    if set(kept).intersection(*map(set, roster)):
                        self.assertRaises(CanNot, circle_run, roster, kept)
                    else:
                        self.check(roster, kept)
        check_call(self, circle_run, ("roster", "kept"), (TWO_OF, (0, 1, 2)))
        check_call(self, circle_run, ("roster", "kept"), (((0,),), (0,)))

    def test_drawn(self):
        draw = random.Random(4)
        for _ in range(200):
            roster, kept = drawn_roster(draw, 7, 12), drawn_set(draw, 7)
            if not set(kept).intersection(*map(set, roster)):
                self.check(roster, kept)

    def test_as_many_as_can_be(self):
        roster = tuple(sorted(itertools.combinations(range(7), 6)))
        self.check(roster, tuple(range(7)))
        self.assertEqual(len(circle_run(roster, tuple(range(7)))[0]), 7)
        many = tuple(sorted(itertools.combinations(range(7), 2)))[:12]
        self.check(many, tuple(range(7)))

    def test_no_circle_of_fewer_unlike_lots(self):
        """Small cases: all runs of three holds by one of each TICKET order, deeds at two stores."""
        draw = random.Random(5)
        for _ in range(300):
            roster, kept = drawn_roster(draw, 3, 3), (0, 1, 2)
            try:
                fewest = len(fewest_apart(roster, kept))
            except CanNot:
                fewest = 99
            run = drawn_ticket_run(draw, roster, kept, 40)
            try:
                circle = circle_of(ticket_rows(roster, kept, run))
            except CanNot:
                continue
            self.assertGreaterEqual(len({run[0][hold] for hold in circle}), fewest)


class Better(unittest.TestCase):
    def test_beside_a_search(self):
        draw = random.Random(6)
        found = 0
        for _ in range(400):
            keepers = draw.randint(1, 5)
            roster, kept = drawn_roster(draw, keepers, 4), drawn_set(draw, keepers)
            if not meets(roster, kept):
                self.assertRaises(Unfit, better, roster, kept, keepers)
                continue
            fit = [some for some in subsets(keepers) if all(set(some) & set(lot) & set(kept) for lot in roster)
                   and not any(set(lot) <= set(some) for lot in roster)]
            if fit:
                found += 1
                self.assertEqual(better(roster, kept, keepers), fit[0])
                new = tuple(sorted(roster + (fit[0],)))
                self.assertTrue(is_roster(new) and meets(new, kept))
                downs = [down for down in subsets(keepers) if had(new, down) and not had(roster, down)]
                self.assertTrue(downs)
            else:
                self.assertRaises(CanNot, better, roster, kept, keepers)
                self.check_none_is_better(roster, kept, keepers)
            check_call(self, better, ("roster", "kept", "keepers"), (roster, kept, keepers))
        self.assertGreater(found, 30)

    def check_none_is_better(self, roster, kept, keepers):
        if keepers > 3:
            return
        downs = [down for down in subsets(keepers) if had(roster, down)]
        for size in range(1, 5):
            for other in itertools.combinations(sorted(subsets(keepers)[1:]), size):
                if meets(other, kept) and all(had(other, down) for down in downs):
                    self.assertEqual([down for down in subsets(keepers) if had(other, down)], downs)

    def test_errors(self):
        self.assertRaises(Unfit, better, ((0, 1), (0, 2)), (0, 1, 2), 2)
        self.assertRaises(Unfit, better, ((0,),), (0, 3), 3)
        self.assertRaises(Unfit, better, ((0,), (1,)), (0, 1), 2)
        self.assertRaises(CanNot, better, ((0,),), (0,), 1)
        self.assertRaises(CanNot, better, TWO_OF, (0, 1, 2), 3)
        self.assertEqual(better(((0, 1, 2),), (0, 1, 2), 7), (0,))
        self.assertEqual(better(((0, 1, 2),), (1, 2), 7), (1,))


class Covers(unittest.TestCase):
    def test_beside_a_search(self):
        draw = random.Random(7)
        right = 0
        for _ in range(400):
            keepers = draw.randint(1, 4)
            downs, forgets = [tuple(sorted({draw.choice(subsets(keepers)) for _ in range(draw.randint(1, 4))})) for _ in range(2)]
            triples = [(one, other, gone) for one in downs for other in downs for gone in forgets
                       if set(one) | set(other) | set(gone) == set(range(keepers))]
            if triples:
                self.assertEqual(cover(keepers, downs, forgets), min(triples))
                self.assertRaises(CanNot, roster_for, keepers, downs, forgets)
            else:
                right += 1
                self.assertRaises(CanNot, cover, keepers, downs, forgets)
                roster = roster_for(keepers, downs, forgets)
                self.assertEqual(roster, tuple(sorted({tuple(sorted(set(range(keepers)) - set(down))) for down in downs})))
                self.assertTrue(is_roster(roster))
                self.assertTrue(all(had(roster, down) for down in downs))
                self.assertTrue(all(meets(roster, tuple(sorted(set(range(keepers)) - set(gone)))) for gone in forgets))
            for call in (cover, roster_for):
                check_call(self, call, ("keepers", "downs", "forgets"), (keepers, downs, forgets))
        self.assertGreater(right, 50)

    def test_by_hand(self):
        self.assertEqual(cover(2, ((0,),), ((1,),)), ((0,), (0,), (1,)))
        self.assertEqual(cover(3, ((0, 1), (2,)), ((), (2,))), ((0, 1), (0, 1), (2,)))
        self.assertEqual(cover(1, ((),), ((0,),)), ((), (), (0,)))
        self.assertEqual(roster_for(3, ((), (0,), (1,)), ((),)), ((0, 1, 2), (0, 2), (1, 2)))
        self.assertRaises(CanNot, roster_for, 3, ((0, 1, 2),), ((),))
        self.assertRaises(CanNot, cover, 3, ((0,), (1,)), ((),))

    def test_ten_of_each(self):
        downs = tuple(sorted(itertools.combinations(range(7), 2)))[:10]
        forgets = tuple(sorted(itertools.combinations(range(7), 3)))[:10]
        self.assertRaises(CanNot, cover, 7, downs[:5], forgets[:1])
        self.assertEqual(len(roster_for(7, downs[:5], forgets[:1])), 5)
        triple = cover(7, downs + ((5, 6),), forgets)
        self.assertEqual(set(sum(triple, ())), set(range(7)))


if __name__ == "__main__":
    unittest.main()
