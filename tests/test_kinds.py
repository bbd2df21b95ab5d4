"""[16]: TABLES, RULES, KIND RUNS, KIND LISTS and LOOPS."""

import itertools
import random
import unittest

from plainlock.errors import CanNot, Unfit
from plainlock.kinds import (
    is_kind_list, is_kind_loop, is_kind_run, is_rules, is_table, kind_list, kind_loop, kind_rows, kinds_right, needed, wrong_run)
from tests.helping import bent, check_call

SHARED, INTENT = ((0,), ()), ((0, 1, 2), (0, 1), (0, 2))
PLAIN = (SHARED, True, ())
# Holds 0 and 2 are shared, hold 1 is alone.
LATE = (("tell", 0), ("tell", 1), ("tell", 0), ("send", 0, 0), ("send", 2, 0), ("take", 1), ("take", 0))


def tables(many):
    pairs = [(a, b) for a in range(many) for b in range(a, many)]
    for bits in itertools.product((False, True), repeat=len(pairs)):
        on = {pair for pair, bit in zip(pairs, bits) if bit}
        yield tuple(tuple(b for b in range(many) if (min(a, b), max(a, b)) in on) for a in range(many))


class Again:
    """A KIND RUN told once more: each question is answered from all steps so far."""

    def __init__(self, rules, steps):
        self.table, self.grants, self.carry = rules
        self.steps = steps
        self.kinds = [step[1] for step in steps if step[0] == "tell"]
        self.sends = [(at, step[1], step[2]) for at, step in enumerate(steps) if step[0] == "send"]
        self.story()

    def at(self, word, letter):
        """The place of this step, or None."""
        return next((at for at, step in enumerate(self.steps) if step == (word, letter)), None)

    def story(self):
        self.borne, self.done, self.answers, self.rows = {}, {}, {}, {}
        for at, step in enumerate(self.steps):
            if step[0] == "send":
                letter = [send[0] for send in self.sends].index(at)
                self.borne[letter] = self.with_it(step[1], at)
            if step[0] == "take":
                self.take(step[1])

    def with_it(self, hold, at):
        kind = self.kinds[hold]
        pairs = [(kind, hold)]
        if self.grants:
            pairs += [(self.kinds[elder], elder) for elder in range(hold)]
        heard = [step[1] for step in self.steps[:at] if step[0] == "hear" and self.sends[step[1]][1] == hold]
        for own, other in self.carry:
            if own == kind:
                pairs += [pair for letter in heard for pair in self.answers[letter] if pair[0] == other]
        return pairs

    def take(self, letter):
        _, hold, store = self.sends[letter]
        known = [pair for other in self.rows.get(store, []) for pair in self.borne[other]]
        bears = self.table[self.kinds[hold]]
        self.done[letter] = all(number <= hold or kind in bears for kind, number in known)
        if self.done[letter]:
            self.rows.setdefault(store, []).append(letter)
            known = known + self.borne[letter]
        self.answers[letter] = known

    def outcomes(self):
        return tuple(self.done.get(letter) for letter in range(len(self.sends)))

    def store_rows(self):
        many = max([store for _, _, store in self.sends], default=-1) + 1
        return tuple(tuple(self.rows.get(store, ())) for store in range(many))

    def marks(self):
        return [("tell", hold) for hold in range(len(self.kinds))] + [("done", letter) for letter in sorted(self.done) if self.done[letter]]

    def hold(self, mark):
        return mark[1] if mark[0] == "tell" else self.sends[mark[1]][1]

    def conflict(self, one, other):
        return one != other and self.kinds[one] not in self.table[self.kinds[other]]

    def must(self, one, other):
        """Whether one MARK must be ahead of another."""
        mine, its = self.hold(one), self.hold(other)
        if other[0] == "tell":
            return its > mine and self.conflict(mine, its)
        if one[0] == "tell":
            return mine == its
        if one == other:
            return False
        row = self.rows[self.sends[one[1]][2]]
        if other[1] in row and row.index(one[1]) < row.index(other[1]):
            return True
        heard = self.at("hear", one[1])
        return mine == its and heard is not None and heard < self.sends[other[1]][0]

    def is_list(self, thing):
        """Whether it is a KIND LIST, step by step."""
        ends = [("end", hold) for hold in range(len(self.kinds))]
        if sorted(thing) != sorted(self.marks() + ends):
            return False
        told, ended, done = [], [], []
        for word, which in thing:
            if word == "tell":
                if any(self.conflict(which, other) and (other not in ended or other > which) for other in told):
                    return False
                told.append(which)
            elif word == "end":
                if which not in told or any(self.sends[mark[1]][1] == which and mark not in done for mark in self.marks() if mark[0] == "done"):
                    return False
                ended.append(which)
            else:
                hold = self.sends[which][1]
                if hold not in told or hold in ended:
                    return False
                if any(self.must((word, which), mark) for mark in done):
                    return False
                done.append((word, which))
        return True


def drawn_run(draw, rules, many, holds=5, stores=2, start=()):
    steps = list(start)
    kinds = len(rules[0])
    while len(steps) < many:
        sends = [step for step in steps if step[0] == "send"]
        told = sum(step[0] == "tell" for step in steps)
        options = [("tell", draw.randrange(kinds))] if told < holds else []
        options += [("send", hold, draw.randrange(stores)) for hold in range(told)]
        options += [(word, letter) for letter in range(len(sends)) for word in ("take", "take", "hear", "hear")]
        draw.shuffle(options)
        step = next((step for step in options if is_kind_run(rules, tuple(steps) + (step,))), None)
        if step is None:
            break
        steps.append(step)
    return tuple(steps)


def drawn_rules(draw, kinds):
    table = draw.choice(list(tables(kinds)))
    pairs = [(a, b) for a in range(kinds) for b in range(kinds)]
    carry = {pair for pair in pairs if draw.random() < 0.25} | {pair for pair in needed(table) if draw.random() < 0.85}
    return (table, draw.random() < 0.5, tuple(sorted(carry)))


class Forms(unittest.TestCase):
    def test_is_table(self):
        for thing in (((),), ((0,),), SHARED, INTENT, ((1,), (0,)), tuple(((),) * 6)):
            self.assertIs(is_table(thing), True, thing)
        for thing in ((), ((1,),), ((0, 0),), ((1, 0), (0,)), ((1,), ()), ((), (0,)), ((-1,),), ((True,), (0,)), ((0,), [1]), [(0,)], None, 0, (None,),
                      (0,), ((None,),), ((0, 1), (1,)), ("0",)):
            self.assertIs(is_table(thing), False, thing)
        check_call(self, is_table, ("thing",), (INTENT,), things=(0,))

    def test_is_rules(self):
        for thing in (PLAIN, (INTENT, False, ((0, 1), (0, 2))), (SHARED, True, ((0, 0), (1, 1)))):
            self.assertIs(is_rules(thing), True, thing)
        for thing in ((SHARED, 1, ()), (SHARED, None, ()), (SHARED, True), PLAIN + (0,), list(PLAIN), (((1,),), True, ()), (SHARED, True, ((0, 2),)),
                      (SHARED, True, ((1, 0), (0, 1))), (SHARED, True, ((0, 1), (0, 1))), (SHARED, True, ((0,),)), (SHARED, True, (0, 1)),
                      (SHARED, True, [(0, 1)]), (SHARED, True, ([0, 1],)), (SHARED, True, ((True, 0),)), (SHARED, True, ((-1, 0),)), None, (), 0,
                      (SHARED, True, None)):
            self.assertIs(is_rules(thing), False, thing)
        check_call(self, is_rules, ("thing",), (PLAIN,), things=(0,))

    def check(self, wanted, *steps, rules=PLAIN):
        self.assertIs(is_kind_run(rules, steps), wanted, steps)

    def test_is_kind_run(self):
        tell = ("tell", 0)
        self.check(True)
        self.check(True, *LATE)
        self.check(True, tell, ("send", 0, 19), ("send", 0, 19), ("take", 1), ("hear", 1), ("take", 0), ("send", 0, 0))
        for steps in ((("tell", 2),), (("tell", -1),), (("tell", True),), (("tell",),), (("send", 0, 0),), (tell, ("send", 1, 0)), (tell, ("send", 0, 20)),
                      (tell, ("send", 0, -1)), (tell, ("send", 0)), (tell, ("send", 0, True)), (tell, ("send", False, 0)), (tell, ("take", 0)),
                      (tell, ("send", 0, 0), ("take", 1)), (tell, ("send", 0, 0), ("take", 0), ("take", 0)), (tell, ("send", 0, 0), ("hear", 0)),
                      (tell, ("send", 0, 0), ("take", 0), ("hear", 0), ("hear", 0)), (tell, ("send", 0, 0), ("hear", 1)), (tell, ("end", 0)),
                      (tell, ("send", 0, 0), ("take", False)), (None,), (0,), ((),), (["tell", 0],), ("tell",), (tell, ("take", 0, 0)), (("tell", 0, 0),)):
            self.check(False, *steps)
        for thing in (None, 0, [tell], "tell", tell):
            self.assertIs(is_kind_run(PLAIN, thing), False)
        check_call(self, is_kind_run, ("rules", "thing"), (PLAIN, LATE), things=(1,))

    def test_nothing_is_sent_behind_a_refusal_that_was_heard(self):
        refused = (("tell", 0), ("tell", 1), ("send", 1, 0), ("take", 0), ("send", 0, 0), ("send", 0, 1), ("take", 1))
        self.check(True, *refused, ("send", 0, 1), ("take", 2), ("take", 3))
        self.check(False, *refused, ("hear", 1), ("send", 0, 1))
        self.check(True, *refused, ("hear", 1), ("take", 2), ("hear", 2), ("send", 1, 1))

    def test_unfit(self):
        wrong = LATE + (("take", 0),)
        for call in (kind_rows, kind_list, kind_loop):
            for run in (wrong, None, (None,), (("send", 0, 0),)):
                self.assertRaises(Unfit, call, PLAIN, run)
            check_call(self, call, ("rules", "run"), (PLAIN, wrong))
        for call in (is_kind_list, is_kind_loop):
            self.assertRaises(Unfit, call, PLAIN, wrong, ())
            self.assertRaises(Unfit, call, PLAIN, wrong, None)


class Rows(unittest.TestCase):
    def test_by_hand(self):
        self.assertEqual(kind_rows(PLAIN, ()), ((), ()))
        self.assertEqual(kind_rows(PLAIN, (("tell", 0), ("send", 0, 2))), ((None,), ((), (), ())))
        # a refused letter makes nothing known
        run = (("tell", 1), ("tell", 1), ("tell", 1), ("send", 2, 0), ("send", 1, 0), ("send", 0, 0), ("take", 0), ("take", 1), ("take", 2))
        self.assertEqual(kind_rows(PLAIN, run), ((True, False, False), ((0,),)))
        run = run[:6] + (("take", 1), ("take", 2), ("take", 0))
        self.assertEqual(kind_rows(PLAIN, run), ((True, True, False), ((1, 0),)))
        check_call(self, kind_rows, ("rules", "run"), (PLAIN, run))

    def test_grants(self):
        """A letter has with it the numbers told ahead of its hold."""
        run = LATE[:5] + (("take", 1), ("take", 0))
        self.assertEqual(kind_rows((SHARED, True, ()), run), ((False, True), ((1,),)))
        self.assertEqual(kind_rows((SHARED, False, ()), run), ((True, True), ((1, 0),)))
        later = (("tell", 0), ("tell", 0), ("tell", 1), ("send", 0, 0), ("send", 1, 0), ("take", 1), ("take", 0))
        self.assertEqual(kind_rows((SHARED, True, ()), later), ((True, True), ((1, 0),)))

    def test_carry(self):
        """What a hold has heard is carried on, of the kinds that carry names."""
        steps = (("tell", 1), ("tell", 0), ("tell", 2), ("send", 2, 0), ("take", 0), ("send", 1, 0), ("take", 1))
        table = ((0, 1, 2), (0,), (0,))
        for heard in ((), (("hear", 1),)):
            run = steps + heard + (("send", 1, 1), ("take", 2), ("send", 0, 1), ("take", 3))
            for carry in ((), ((0, 2),), ((0, 1),), ((1, 2),), ((0, 0), (0, 2), (2, 2))):
                wanted = not (heard and (0, 2) in carry)
                self.assertEqual(kind_rows((table, False, carry), run)[0], (True, True, True, wanted))

    def test_drawn(self):
        draw = random.Random(1)
        met = set()
        for _ in range(250):
            rules = drawn_rules(draw, draw.randint(1, 4))
            self.assertTrue(is_rules(rules))
            run = drawn_run(draw, rules, draw.randint(0, 40))
            again = Again(rules, run)
            self.assertEqual(kind_rows(rules, run), (again.outcomes(), again.store_rows()))
            met |= {(rules[1], bool(rules[2]), outcome) for outcome in again.outcomes()}
        self.assertEqual(len(met), 12)


class Lists(unittest.TestCase):
    def one_of_both(self, rules, run):
        """Whether there is a KIND LIST; then there is no LOOP."""
        again = Again(rules, run)
        try:
            found = kind_list(rules, run)
        except CanNot:
            loop = kind_loop(rules, run)
            self.assertIs(is_kind_loop(rules, run, loop), True)
            self.assertTrue(len(loop) > 1 and all(again.must(one, other) for one, other in zip(loop, loop[1:] + loop[:1])))
            return False
        self.assertIs(is_kind_list(rules, run, found), True)
        self.assertTrue(again.is_list(found))
        self.assertRaises(CanNot, kind_loop, rules, run)
        return True

    def test_drawn(self):
        draw = random.Random(2)
        listed = {True: 0, False: 0}
        for _ in range(250):
            rules = drawn_rules(draw, draw.randint(1, 3))
            start = ()
            if not kinds_right(rules) and draw.random() < 0.6:
                start = wrong_run(rules)[:draw.randint(8, 15)]
            run = drawn_run(draw, rules, draw.randint(0, 45), start=start)
            found = self.one_of_both(rules, run)
            listed[found] += 1
            self.assertTrue(found or not kinds_right(rules))
        self.assertGreater(min(listed.values()), 15)

    def test_lists_and_loops_beside_a_search(self):
        draw = random.Random(3)
        told = {True: 0, False: 0}
        for _ in range(80):
            rules = drawn_rules(draw, draw.randint(1, 3))
            run = drawn_run(draw, rules, 9, 3)
            again = Again(rules, run)
            marks = again.marks() + [("end", hold) for hold in range(len(again.kinds))]
            for _ in range(60):
                thing = tuple(draw.sample(marks, len(marks)))
                self.assertIs(is_kind_list(rules, run, thing), again.is_list(thing))
            try:
                thing = list(kind_list(rules, run))
            except CanNot:
                continue
            for _ in range(40):
                one = draw.randrange(len(thing)) if thing else 0
                other = thing[:one] + thing[one + 1:]
                other.insert(draw.randint(0, len(other)), thing[one]) if thing else None
                told[again.is_list(other)] += 1
                self.assertIs(is_kind_list(rules, run, tuple(other)), again.is_list(other))
            names = again.marks()
            for many in (2, 3):
                for loop in itertools.permutations(names, many):
                    wanted = all(again.must(one, other) for one, other in zip(loop, loop[1:] + loop[:1]))
                    self.assertIs(is_kind_loop(rules, run, loop), wanted)
        self.assertGreater(min(told.values()), 200)

    RUN = (("tell", 0), ("tell", 0), ("send", 1, 0), ("take", 0), ("hear", 0), ("send", 0, 0), ("take", 1), ("send", 1, 1), ("take", 2), ("tell", 1))
    GOOD = (("tell", 0), ("tell", 1), ("done", 0), ("done", 1), ("done", 2), ("end", 1), ("end", 0), ("tell", 2), ("end", 2))

    def test_each_condition_of_a_list_by_itself(self):
        rules, run, good = PLAIN, self.RUN, self.GOOD
        def moved(one, to):
            rest = good[:one] + good[one + 1:]
            return rest[:to] + (good[one],) + rest[to:]
        self.assertIs(is_kind_list(rules, run, good), True)
        # told in another order, as far as they bear each other
        self.assertIs(is_kind_list(rules, run, moved(0, 2)), True)
        for thing in (moved(2, 0), moved(4, 6), moved(3, 2), moved(4, 2), moved(7, 6), moved(7, 0), moved(8, 7), moved(5, 4), good[:-1], good + (("end", 2),),
                      good[1:], good[:3] + good[4:], good + (("done", 3),), good[:-1] + (("end", 3),), list(good), None, (), 0,
                      good[:-1] + (["end", 2],), good[:-1] + (("end", True),), (("tell", False),) + good[1:], good[:-1] + (("stop", 2),)):
            self.assertIs(is_kind_list(rules, run, thing), False, thing)
        check_call(self, is_kind_list, ("rules", "run", "thing"), (rules, run, good), things=(2,))
        check_call(self, kind_list, ("rules", "run"), (rules, run))

    def test_each_condition_of_a_loop_by_itself(self):
        rules = (SHARED, False, ())
        loop = (("tell", 1), ("tell", 2), ("done", 1), ("done", 0))
        for k in range(4):
            self.assertIs(is_kind_loop(rules, LATE, loop[k:] + loop[:k]), True)
        for thing in (loop[::-1], loop[:3], loop[1:], loop + loop, (loop[0],), (), list(loop), None, bent(loop, (0,), ("tell", 0)),
                      bent(loop, (0,), ("tell", True)), bent(loop, (3,), ("done", 2)), bent(loop, (3,), ("end", 0)), bent(loop, (3,), ["done", 0]), 0):
            self.assertIs(is_kind_loop(rules, LATE, thing), False, thing)
        check_call(self, is_kind_loop, ("rules", "run", "thing"), (rules, LATE, loop), things=(2,))
        check_call(self, kind_loop, ("rules", "run"), (rules, LATE))
        check_call(self, kind_loop, ("rules", "run"), (PLAIN, LATE))

    def test_of_nothing(self):
        self.assertEqual(kind_list(PLAIN, ()), ())
        self.assertIs(is_kind_list(PLAIN, (), ()), True)
        self.assertRaises(CanNot, kind_loop, PLAIN, ())


class Right(unittest.TestCase):
    def test_needed(self):
        self.assertEqual(needed(((0, 1), (0,))), ((0, 1),))
        for many in (1, 2, 3):
            for table in tables(many):
                wanted = [(a, b) for a in range(many) for b in table[a] if any(b not in table[c] for c in table[a])]
                self.assertEqual(needed(table), tuple(wanted))
        check_call(self, needed, ("table",), (INTENT,))

    def test_by_hand(self):
        for rules, wanted in (((((),), False, ()), True), ((((0,),), False, ()), True), ((SHARED, True, ()), True), ((SHARED, False, ()), False),
                              ((INTENT, True, ((0, 1), (0, 2))), True), ((INTENT, True, ((0, 1), (1, 2))), False),
                              ((INTENT, False, ((0, 1), (0, 2))), False), ((((0, 1), (0,)), False, ((0, 1),)), True),
                              ((((0, 1), (0,)), False, ()), False)):
            self.assertIs(kinds_right(rules), wanted, rules)
            check_call(self, kinds_right, ("rules",), (rules,))
            check_call(self, wrong_run, ("rules",), (rules,))

    def check_wrong(self, rules):
        run = wrong_run(rules)
        self.assertIs(is_kind_run(rules, run), True)
        self.assertLessEqual(sum(step[0] == "tell" for step in run), 4)
        self.assertLessEqual(len({step[2] for step in run if step[0] == "send"}), 2)
        self.assertIs(is_kind_loop(rules, run, kind_loop(rules, run)), True)
        self.assertRaises(CanNot, kind_list, rules, run)

    def test_all_small_rules(self):
        told = {True: 0, False: 0}
        for many in (1, 2):
            pairs = [(a, b) for a in range(many) for b in range(many)]
            for table in tables(many):
                for size in range(len(pairs) + 1):
                    for carry in itertools.combinations(pairs, size):
                        for grants in (True, False):
                            rules = (table, grants, carry)
                            told[self.check_right(rules)] += 1
        self.assertGreater(min(told.values()), 40)

    def check_right(self, rules):
        right = kinds_right(rules)
        if right:
            self.assertRaises(CanNot, wrong_run, rules)
        else:
            self.check_wrong(rules)
        return right

    def test_drawn_rules(self):
        draw = random.Random(4)
        told = {True: 0, False: 0}
        for _ in range(400):
            told[self.check_right(drawn_rules(draw, draw.randint(2, 4)))] += 1
        self.assertGreater(min(told.values()), 60)

    def test_no_wrong_run_where_it_is_right(self):
        """All runs of a few steps, for all tables of two kinds; each has a KIND LIST."""
        for table in tables(2):
            for grants in (True, False):
                rules = (table, grants, needed(table))
                if kinds_right(rules):
                    self.go_on(rules, (), 9)

    def go_on(self, rules, steps, left):
        if left == 0:
            kind_list(rules, steps)
            return
        told, sends = [sum(step[0] == word for step in steps) for word in ("tell", "send")]
        if told < 3:
            options = [("tell", 0), ("tell", 1)]
        elif sends < 3:
            options = [("send", hold, 0) for hold in range(3)]
        else:
            options = [("take", letter) for letter in range(3)]
        for step in options:
            if is_kind_run(rules, steps + (step,)):
                self.go_on(rules, steps + (step,), left - 1)

    def test_at_the_bounds(self):
        draw = random.Random(5)
        pairs = [(a, b) for a in range(6) for b in range(a, 6)]
        for _ in range(30):
            on = {pair for pair in pairs if draw.random() < 0.5}
            table = tuple(tuple(b for b in range(6) if (min(a, b), max(a, b)) in on) for a in range(6))
            rules = (table, draw.random() < 0.5, tuple(sorted(set(needed(table)) - {draw.choice(pairs)})))
            self.check_right(rules)
            run = drawn_run(draw, rules, 60, 10, 4)
            self.assertGreater(len(run), 40)
            Lists.one_of_both(self, rules, run)


if __name__ == "__main__":
    unittest.main()
