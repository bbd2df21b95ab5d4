"""[15]: FORMS, CONDITIONS, FAMILIES, TREES and MENDS."""

import itertools
import random
import unittest

from plainlock.borders import (
    apart, comes_to, holds, is_condition, is_mend, is_tree, mend, overlap_form, plan_at, right_where, stretches, tree, web_where)
from plainlock.errors import CanNot, Unfit
from plainlock.fractions import fraction, is_fraction, less, minus, over, plus, sum_of, times
from plainlock.plans import can_hold, changed, is_plan, setting, times_of
from plainlock.rings import schedule
from plainlock.ways import open_pairs, overlap, ways
from tests.drawing import a_fraction, a_plan
from tests.helping import LONE, ONE, at, check_call

GOALS = ("look", "store")
X, Y = ((0, 1), (1, 1)), ((-1, 1), (1, 1))
HALF = (1, 2)


def below(form):
    return ("below", form)


def since(form):
    return ("from", form)


def a_form(draw, unknowns, high=9):
    return tuple(fraction(draw.randint(-high, high), draw.randint(1, 3)) for _ in range(unknowns + 1))


def a_condition(draw, forms, depth=4):
    if depth == 0 or draw.random() < 0.15:
        return (draw.choice(("below", "from")), draw.choice(forms))
    return (draw.choice(("all", "any")), tuple(a_condition(draw, forms, depth - 1) for _ in range(draw.randint(0, 3) or 2)))


def negated(condition):
    word, inside = condition
    if word in ("below", "from"):
        return ("from" if word == "below" else "below", inside)
    return ("any" if word == "all" else "all", tuple(map(negated, inside)))


def values_drawn(draw, unknowns, high=6):
    return tuple(a_fraction(draw, -high, high) for _ in range(unknowns))


def along(values, way, t):
    return tuple(plus(value, times(t, step)) for value, step in zip(values, way))


class Forms(unittest.TestCase):
    def test_is_condition(self):
        form = ((1, 2), (-3, 1), (0, 1))
        for thing in (below(form), since(form), ("all", ()), ("any", ()), ("all", (below(form), ("any", (since(form),)))),
                      ("any", (("all", ()), below(form)))):
            self.assertIs(is_condition(2, thing), True, thing)
        self.assertIs(is_condition(0, below(((1, 2),))), True)
        self.assertIs(is_condition(3, below(((0, 1),) * 4)), True)

    def test_each_fault_by_itself(self):
        form = ((1, 2), (-3, 1), (0, 1))
        for wrong in (form[:2], form + ((0, 1),), (form[0], form[1], (2, 2)), (form[0], form[1], 0), list(form), None, (), ((1, 2), [1, 2], (0, 1)),
                      ((1, 2), (True, 1), (0, 1)), "abc"):
            for word in ("below", "from"):
                self.assertIs(is_condition(2, (word, wrong)), False, wrong)
                self.assertIs(is_condition(2, ("all", ((word, form), (word, wrong)))), False, wrong)
        for thing in (("above", form), ("all", form), ("all",), ("all", (), ()), ("any", [below(form)]), ["all", ()], ("all", None), ("all", (None,)),
                      ("all", below(form)), None, 0, (), "all", ("below",), below(form) + (form,), (0, form), (("all", ()),), ((), ())):
            self.assertIs(is_condition(2, thing), False, thing)
        check_call(self, is_condition, ("unknowns", "thing"), (2, ("all", (below(form),))), things=(1,))

    def test_comes_to(self):
        self.assertEqual(comes_to(((1, 2),), ()), (1, 2))
        self.assertEqual(comes_to(((1, 2), (3, 1), (-1, 3)), ((1, 6), (5, 1))), (-2, 3))
        check_call(self, comes_to, ("form", "values"), (((1, 2), (3, 1), (-1, 3)), ((1, 6), (5, 1))))

    def test_holds_at_the_very_border(self):
        form = ((-1, 1), (2, 1))
        for value, is_below in (((1, 2), False), ((499, 1000), True), ((501, 1000), False)):
            self.assertIs(holds(below(form), (value,)), is_below)
            self.assertIs(holds(since(form), (value,)), not is_below)
        self.assertIs(holds(("all", ()), ()), True)
        self.assertIs(holds(("any", ()), ()), False)
        both = ("all", (since(form), below(((-1, 1), (1, 1)))))
        self.assertEqual([holds(both, (fraction(k, 4),)) for k in (1, 2, 3, 4, 5)], [False, True, True, False, False])
        either = ("any", (below(form), since(((-1, 1), (1, 1)))))
        self.assertEqual([holds(either, (fraction(k, 4),)) for k in (1, 2, 3, 4, 5)], [True, False, False, True, True])
        check_call(self, holds, ("condition", "values"), (both, (HALF,)))


class Families(unittest.TestCase):
    def test_plan_at(self):
        family = (LONE, ((0, ("term",), (2, 1)), (1, ("term",), (-1, 2)), (0, ("least", "ask"), (1, 3)), (0, ("term",), (1, 1))))
        self.assertEqual(plan_at(family, (at(1), at(4))), changed(changed(LONE, ("term",), at(11)), ("least", "ask"), (4, 3)))
        self.assertEqual(plan_at(family, (at(0), at(0))), LONE)
        self.assertEqual(plan_at((LONE, ()), ()), LONE)
        for values in ((at(-4), at(0)), (at(0), at(21)), (at(4), at(0)), (at(-3), at(-100))):
            self.assertRaises(Unfit, plan_at, family, values)
        # on the way one of two may be no PLAN
        both = (LONE, ((0, ("least", "ask"), (5, 1)), (0, ("most", "ask"), (5, 1))))
        self.assertEqual(setting(plan_at(both, (at(1),)), ("least", "ask")), at(6))
        for values in ((at(1), at(4)), (at(4), at(0))):
            check_call(self, plan_at, ("family", "values"), (family, values))

    def test_overlap_form(self):
        family = (LONE, ((0, ("term",), (1, 1)), (1, ("length", 0), (1, 1)), (1, ("least", "grant"), (2, 1))))
        way = ((0,), (0,), 0, "lapse")
        self.assertEqual(overlap_form(2, family, way, "look"), (at(0), at(1), at(-3)))
        self.assertEqual(overlap_form(3, family, way, "store"), (at(2), at(1), at(-3), at(0)))
        self.assertEqual(overlap_form(2, family, way[:3] + ("release",), "look"), (at(-2), at(0), at(-2)))
        self.assertEqual(overlap_form(0, (LONE, ()), way, "look"), (at(0),))
        self.assertIsNone(overlap_form(2, (changed(LONE, ("stop",), None), family[1]), way, "store"))
        self.assertRaises(Unfit, overlap_form, 2, family, ((0,), (0,), 0, "fall"), "look")
        self.assertRaises(Unfit, overlap_form, 2, family, ((0,), (1,), 0, "lapse"), "look")
        for some in (way, ((0,), (1,), 0, "lapse")):
            check_call(self, overlap_form, ("unknowns", "family", "way", "goal"), (2, family, some, "look"))

    def drawn(self, draw, **parts):
        plan = a_plan(draw, **parts)
        names = times_of(plan)
        unknowns = draw.randint(0, 3)
        moves = tuple((draw.randrange(unknowns), draw.choice(names), a_fraction(draw, -2, 2)) for _ in range(draw.randint(1, 4)) if unknowns)
        return unknowns, (plan, moves)

    def test_overlap_form_is_overlap(self):
        draw = random.Random(1)
        words, checked = set(), 0
        for _ in range(200):
            unknowns, family = self.drawn(draw)
            values = values_drawn(draw, unknowns, 2)
            try:
                plan = plan_at(family, values)
            except Unfit:
                plan = None
            for way in draw.sample(ways(family[0]), min(6, len(ways(family[0])))):
                for goal in GOALS:
                    form = overlap_form(unknowns, family, way, goal)
                    if form is None:
                        self.assertIsNone(overlap(family[0], way, goal))
                    elif plan is not None:
                        self.assertTrue(len(form) == unknowns + 1 and all(map(is_fraction, form)))
                        self.assertEqual(comes_to(form, values), overlap(plan, way, goal))
                        words.add((way[3], goal))
                        checked += 1
        self.assertGreater(checked, 300)
        self.assertEqual(words, {(how, goal) for how in ("lapse", "fall", "release", "elder release") for goal in GOALS})

    def is_right(self, family, values, locks, language):
        """What section 19 says of the plan, word by word."""
        try:
            plan = plan_at(family, values)
        except Unfit:
            return False
        if not can_hold(plan):
            return True
        if not all(keeps for _, keeps in plan[5]):
            return False
        if not all(asks for asks, _ in plan[5]) and open_pairs(plan, "store"):
            return False
        return not (locks > 1 and open_pairs(plan, "look") and not (language == "deeds" and plan[4][4]))

    def test_right_where(self):
        draw = random.Random(2)
        seen = {True: 0, False: 0}
        for _ in range(250):
            stores = tuple((draw.random() < 0.5, draw.random() < 0.95) for _ in range(draw.randint(1, 2)))
            unknowns, family = self.drawn(draw, keepers=draw.randint(1, 3), stores=stores, faults=() if draw.random() < 0.8 else None)
            locks, language = draw.randint(1, 3), draw.choice(("looks", "deeds"))
            where = right_where(unknowns, family, locks, language)
            self.assertTrue(is_condition(unknowns, where))
            points = [values_drawn(draw, unknowns, 3) for _ in range(6)] + [((0, 1),) * unknowns]
            for _ in range(3):
                start, way = values_drawn(draw, unknowns, 2), values_drawn(draw, unknowns, 2)
                for low, _, high, _ in stretches(where, start, way):
                    for end in (low, high):
                        if end is not None:
                            points += [along(start, way, plus(end, fraction(k, 1000))) for k in (-1, 0, 1)]
            for values in points:
                told = self.is_right(family, values, locks, language)
                self.assertIs(holds(where, values), told, (family, values, locks, language))
                seen[told] += 1
        self.assertGreater(min(seen.values()), 300)

    def test_right_where_by_hand(self):
        family = (LONE, ((0, ("term",), (1, 1)), (1, ("length", 0), (1, 1))))
        where = right_where(2, family, 2, "looks")
        for values, wanted in (((at(0), at(0)), False), ((at(0), (1, 100)), True), ((at(-8), at(-2)), True), ((at(-8), at(-8)), False),
                               (((-801, 100), at(-8)), True), ((at(-10), at(0)), True), (((-1001, 100), at(0)), False), ((at(-9), at(-9)), False)):
            self.assertIs(holds(where, values), wanted, values)
        self.assertIs(holds(right_where(2, family, 1, "looks"), (at(5), at(0))), True)
        self.assertIs(holds(right_where(2, family, 2, "deeds"), (at(5), at(0))), False)
        sealed = (changed(LONE, ("sealed",), True), family[1])
        self.assertIs(holds(right_where(2, sealed, 2, "deeds"), (at(5), at(0))), True)
        self.assertIs(holds(right_where(2, sealed, 2, "looks"), (at(5), at(0))), False)
        check_call(self, right_where, ("unknowns", "family", "locks", "language"), (2, family, 2, "looks"))

    def test_right_where_nothing_grows_that_counts(self):
        """What does not hang on the unknowns is right or wrong everywhere, at its very border, too."""
        for plan, wanted in ((LONE, False), (changed(LONE, ("length", 0), (81, 10)), True),
                             (changed(changed(LONE, ("length", 0), at(0)), ("term",), at(2)), False),
                             (changed(changed(LONE, ("length", 0), at(0)), ("term",), (19, 10)), True),
                             (changed(changed(LONE, ("term",), at(1)), ("faults",), ("bare grant",)), False),
                             (changed(changed(LONE, ("term",), at(1)), ("counts",), "taken"), True),
                             (changed(changed(changed(LONE, ("term",), at(1)), ("length", 0), at(1)), ("counts",), "taken"), False)):
            where = right_where(1, (plan, ((0, ("grace", 0), at(1)),)), 2, "looks")
            for value in (0, 7):
                self.assertIs(holds(where, (at(value),)), wanted, plan)
                self.assertIs(self.is_right((plan, ((0, ("grace", 0), at(1)),)), (at(value),), 2, "looks"), wanted)
            self.assertIs(holds(where, (at(-1),)), False)

    def test_web_where(self):
        draw = random.Random(3)
        seen = {True: 0, False: 0}
        for _ in range(150):
            unknowns, many = draw.randint(0, 3), draw.randint(0, 6)
            ties = tuple((draw.randrange(many), draw.randrange(many), a_form(draw, unknowns, 4)) for _ in range(draw.randint(0, 9)) if many)
            where = web_where(unknowns, many, ties)
            self.assertTrue(is_condition(unknowns, where))
            points = [values_drawn(draw, unknowns, 4) for _ in range(4)]
            start, way = values_drawn(draw, unknowns, 2), values_drawn(draw, unknowns, 2)
            for low, _, high, _ in stretches(where, start, way):
                points += [along(start, way, plus(end, fraction(k, 1000))) for end in (low, high) if end is not None for k in (-1, 0, 1)]
            for values in points:
                web = (many, tuple((x, y, comes_to(form, values)) for x, y, form in ties))
                try:
                    told = bool(schedule(web)) or True
                except CanNot:
                    told = False
                self.assertIs(holds(where, values), told)
                seen[told] += 1
        self.assertGreater(min(seen.values()), 100)
        check_call(self, web_where, ("unknowns", "many", "ties"), (1, 2, ((0, 1, X), (1, 0, Y))))

    def test_webs_at_the_bounds(self):
        draw = random.Random(4)
        # twenty ties, two between each point and the next one around
        ties = tuple((k // 2, (k // 2 + 1) % 10, a_form(draw, 3)) for k in range(20))
        for some in (ties, tuple((draw.randrange(10), draw.randrange(10), a_form(draw, 3)) for _ in range(20))):
            where = web_where(3, 10, some)
            for _ in range(10):
                values = values_drawn(draw, 3)
                web = (10, tuple((x, y, comes_to(form, values)) for x, y, form in some))
                try:
                    told = bool(schedule(web))
                except CanNot:
                    told = False
                self.assertIs(holds(where, values), told)
            try:
                self.assertTrue(holds(where, apart(3, where, ("any", ()))))
            except CanNot:
                self.assertFalse(holds(where, ((0, 1),) * 3))


class Stretches(unittest.TestCase):
    def test_by_hand(self):
        line = ((0, 1),), ((1, 1),)
        point = ("all", (since(X), since((at(0), at(-1)))))
        for condition, wanted in (
                (("all", ()), ((None, False, None, False),)), (("any", ()), ()), (below(X), ((None, False, at(0), False),)),
                (since(X), ((at(0), True, None, False),)), (point, ((at(0), True, at(0), True),)),
                (("any", (below(X), since(X))), ((None, False, None, False),)),
                (("any", (below(X), below((at(0), at(-1))))), ((None, False, at(0), False), (at(0), False, None, False))),
                (("all", (since(X), below(Y))), ((at(0), True, at(1), False),)),
                (("any", (below(X), since(Y), point)), ((None, False, at(0), True), (at(1), True, None, False))),
                (since((at(1), at(0))), ((None, False, None, False),)), (below((at(1), at(0))), ())):
            self.assertEqual(stretches(condition, *line), wanted, condition)
        self.assertEqual(stretches(since(X), (at(3),), (at(0),)), ((None, False, None, False),))
        self.assertEqual(stretches(below(X), (at(3),), (at(0),)), ())
        self.assertEqual(stretches(since(X), (at(3),), (at(-2),)), ((None, False, (3, 2), True),))
        self.assertEqual(stretches(("all", ()), (), ()), ((None, False, None, False),))
        check_call(self, stretches, ("condition", "values", "way"), (("any", (below(X), since(Y))), (at(0),), (at(2),)))

    def test_drawn(self):
        draw = random.Random(5)
        for _ in range(300):
            unknowns = draw.randint(0, 3)
            condition = a_condition(draw, [a_form(draw, unknowns, 3) for _ in range(draw.randint(1, 6))])
            values, way = values_drawn(draw, unknowns, 3), values_drawn(draw, unknowns, 2)
            told = stretches(condition, values, way)
            ends = sorted({end for low, _, high, _ in told for end in (low, high) if end}, key=lambda x: x[0] / x[1])
            probes = ends + [over(plus(a, b), at(2)) for a, b in itertools.pairwise(ends)]
            probes += [minus(ends[0], at(1)), plus(ends[-1], at(1))] if ends else []
            probes += [a_fraction(draw, -9, 9, 6) for _ in range(8)]
            for t in probes:
                inside = any((low is None or less(low, t) or (low == t and with_low)) and (high is None or less(t, high) or (high == t and with_high))
                             for low, with_low, high, with_high in told)
                self.assertIs(holds(condition, along(values, way, t)), inside)
            for (_, _, high, with_high), (low, with_low, _, _) in itertools.pairwise(told):
                self.assertTrue(less(high, low) or (high == low and not with_high and not with_low))
            for low, with_low, high, with_high in told:
                self.assertFalse((low is None and with_low) or (high is None and with_high))


class Trees(unittest.TestCase):
    def one_of_both(self, unknowns, condition, other):
        try:
            found = tree(unknowns, condition, other)
        except CanNot:
            found = None
        try:
            values = apart(unknowns, condition, other)
        except CanNot:
            values = None
        self.assertNotEqual(found is None, values is None)
        if found is None:
            self.assertTrue(len(values) == unknowns and all(map(is_fraction, values)))
            self.assertTrue(holds(condition, values) and not holds(other, values))
        else:
            self.assertIs(is_tree(unknowns, condition, other, found), True)
        return found

    def test_always_just_one(self):
        draw = random.Random(6)
        found = {True: 0, False: 0}
        for _ in range(300):
            unknowns = draw.randint(0, 3)
            forms = [a_form(draw, unknowns) for _ in range(draw.randint(1, 7))]
            condition, other = a_condition(draw, forms), a_condition(draw, forms)
            roll = draw.random()
            if roll < 0.25:
                other = ("any", (other, condition))
            elif roll < 0.5:
                condition, other = ("all", (condition, other)), negated(negated(condition))
            found[self.one_of_both(unknowns, condition, other) is not None] += 1
        self.assertGreater(min(found.values()), 60)

    def test_forms_that_follow_from_others(self):
        draw = random.Random(7)
        for _ in range(150):
            unknowns = draw.randint(1, 3)
            forms = [a_form(draw, unknowns, 4) for _ in range(draw.randint(1, 4))]
            shares = [fraction(draw.randint(0, 3), draw.randint(1, 2)) for _ in forms]
            total = tuple(sum_of([times(form[k], share) for form, share in zip(forms, shares)]) for k in range(unknowns + 1))
            self.assertIsNotNone(self.one_of_both(unknowns, ("all", tuple(map(since, forms))), since(total)))
            if any(share[0] for share in shares):
                self.assertIsNotNone(self.one_of_both(unknowns, ("all", tuple(map(below, forms))), below(total)))
            self.one_of_both(unknowns, ("all", tuple(map(below, forms))), below(bent_first(total, 1)))
            self.one_of_both(unknowns, since(total), ("any", tuple(map(since, forms))))

    def test_empty_and_flat_ones(self):
        self.assertEqual(tree(0, below((at(1),)), ("any", ())), ("so",))
        self.assertEqual(apart(0, ("all", ()), ("any", ())), ())
        self.assertRaises(CanNot, apart, 2, ("any", ()), below(((1, 1),) * 3))
        self.one_of_both(1, ("all", (below(X), since(X))), ("any", ()))
        self.one_of_both(1, ("all", (since(X), since((at(0), at(-1))))), ("any", ()))
        self.one_of_both(2, ("all", (since((at(0), at(1), at(0))), since((at(0), at(-1), at(0))), below((at(0), at(0), at(1))))), ("any", ()))

    def test_rules_for_calls(self):
        for condition, other in ((below(X), below(Y)), (below(Y), below(X))):
            for call in (tree, apart):
                check_call(self, call, ("unknowns", "condition", "other"), (1, condition, other))
        check_call(self, is_tree, ("unknowns", "condition", "other", "thing"), (1, below(X), below(Y), tree(1, below(X), below(Y))), things=(3,))

    GONE = ("never", (at(1), at(-1)))
    GOOD = ("split", X, ("split", Y, ("so",), GONE, GONE), ("so",), ("so",))

    def check(self, wanted, thing, condition=below(X), other=below(Y), unknowns=1):
        self.assertIs(is_tree(unknowns, condition, other, thing), wanted, thing)

    def test_is_tree(self):
        so, gone = ("so",), self.GONE
        self.check(True, self.GOOD)
        self.check(True, ("split", Y, so, ("split", X, ("never", (at(-1), at(1))), so, so), ("split", X, ("never", (at(-2), at(2))), so, so)))
        # one that is the same everywhere may not
        gone3 = ("never", (at(0), at(1), at(-1)))
        inner = ("split", X, ("split", Y, so, gone3, gone3), so, so)
        self.check(True, ("split", (at(9), at(5))) + (inner,) * 3)
        self.check(False, ("split", (at(9), at(0))) + (inner,) * 3)
        self.check(False, self.GOOD[:3] + (("so", 0), so))
        # a FORM of neither may be split, too
        third = (at(7), at(3))
        deep = self.GOOD[:2] + (("split", Y, so, ("split", third) + (("never", (at(1), at(-1), at(0))),) * 3, gone), so, so)
        self.check(True, deep)
        for thing in (
                ("so",), ("split", X, ("so",), so, so), ("split", X, so, self.GOOD[2], so), self.GOOD[:4], self.GOOD + (so,), list(self.GOOD),
                ("split", X, ("split", X, so, gone, gone), so, so), ("split", X, ("split", Y, so, gone, so), so, so),
                ("split", X, ("split", Y, gone, gone, gone), so, so), ("split", X, self.GOOD[2], gone, so),
                ("split", X, self.GOOD[2], so, ("never", (at(-1),))), ("splits",) + self.GOOD[1:], None, 0, (), "so", ("so", 0), ("never",),
                ("never", ()), ("split", (at(0), at(0)), so, so, so), ("split", list(X), self.GOOD[2], so, so), ("split", X[:1], so, so, so),
                ("split", X + (at(0),), self.GOOD[2], so, so), ("split", ((0, 1), (2, 2)), self.GOOD[2], so, so), ("split", None, so, so, so)):
            self.check(False, thing)

    def test_weights(self):
        so = ("so",)
        def with_gone(at_side, above):
            return ("split", X, ("split", Y, so, at_side, above), so, so)
        for at_side, above, wanted in (
                (((1, 1), (-1, 1)), ((1, 1), (-1, 1)), True), ((at(2), at(-2)), (HALF, (-1, 2)), True),
                ((at(1), at(1)), (at(1), at(-1)), False), ((at(1), at(-1)), (at(1), at(1)), False), ((at(-1), at(1)), (at(1), at(-1)), False),
                ((at(1), at(-1)), (at(0), at(0)), False), ((at(1), at(-2)), (at(1), at(-1)), False), ((at(1),), (at(1), at(-1)), False),
                ((at(1), at(-1), at(0)), (at(1), at(-1)), False), ([at(1), at(-1)], (at(1), at(-1)), False), ((1, -1), (at(1), at(-1)), False),
                (None, (at(1), at(-1)), False), (((2, 2), at(-1)), (at(1), at(-1)), False)):
            self.check(wanted, with_gone(("never", at_side), ("never", above)))

    def test_weights_that_add_up_to_nothing(self):
        """0 is enough only where some weight below or above is not 0; at 0 any sign is let."""
        so, twice = ("so",), (at(0), at(2))
        condition = ("all", (since(X), below(twice)))
        for weights, wanted in (((at(-2), at(1)), True), ((at(-4), at(2)), True), ((at(2), at(-1)), False), ((at(0), at(0)), False), ((at(-2), at(2)), False)):
            thing = ("split", X, so, ("split", twice, ("never", weights), so, so), ("split", twice, ("never", (at(-2), at(1))), so, so))
            self.check(wanted, thing, condition, ("any", ()))

    def test_weights_that_leave_something_below_0(self):
        so, lower = ("so",), (at(-1), at(2))
        condition = ("all", (since(X), below(lower)))
        for below_side, at_side, wanted in ((so, so, False), (("never", (at(-2), at(1))), so, False)):
            thing = ("split", X, so, ("split", lower, below_side, at_side, so), so)
            self.check(wanted, thing, condition, ("any", ()))
        # both at 0: that can be
        twice = (at(0), at(2))
        condition = ("all", (since(X), below(twice)))
        for at_side, wanted in ((so, True), (("never", (at(-2), at(1))), False), (("never", (at(0), at(0))), False)):
            both = [("split", twice, ("never", (at(-2), at(1))), at_side, so), ("split", twice, ("never", (at(-2), at(1))), so, so)]
            self.check(wanted, ("split", X, so) + tuple(both), condition, ("any", ()))

    def test_so_where_known_decides(self):
        so = ("so",)
        all_of, any_of = ("all", (below(X), below(Y))), ("any", (below(X), below(Y)))
        self.check(True, ("split", X, so, ("split", Y, so, ("split", (at(1), at(1)), so, so, so), so), so), all_of, any_of)
        self.check(True, ("split", X, so, so, so), all_of, any_of)
        self.check(False, ("split", (at(5), at(1)), so, so, so), all_of, any_of)
        self.check(True, ("split", X, so, so, so), ("all", (all_of, since(((-1, 1), (0, 1))))), any_of)
        self.check(True, so, ("all", (all_of, since(((-1, 1), (0, 1))))), any_of)
        self.check(True, so, below(X), ("any", (since(((0, 1), (0, 1))), below(Y))))
        self.check(False, so, below(X), ("any", (below(((0, 1), (0, 1))), below(X))))
        # what holds whatever X is, but is not decided by what is known
        self.check(False, so, below(Y), ("any", (below(X), since(X))))
        self.check(True, ("split", X, so, so, so), below(Y), ("any", (below(X), since(X))))

    def test_at_the_bounds(self):
        draw = random.Random(8)
        forms = [a_form(draw, 3) for _ in range(12)]
        rings = [("any", tuple(("all", (below(forms[k]), since(forms[(k + step) % 12]))) for k in range(12))) for step in (1, 5)]
        condition = ("all", tuple(rings))
        self.assertTrue(self.one_of_both(3, condition, negated(negated(condition))) is not None)
        self.assertTrue(self.one_of_both(3, condition, ("all", (condition, below(forms[0])))) is None)
        cost, border, inside = mend(3, condition, (at(90), at(-80), at(70)), ((ONE, ONE), (ONE, HALF), (HALF, ONE)))
        self.assertTrue(is_mend(3, condition, (at(90), at(-80), at(70)), ((ONE, ONE), (ONE, HALF), (HALF, ONE)), (cost, border, inside)))
        nested = below(forms[0])
        for k in range(1, 10):
            nested = (draw.choice(("all", "any")), (nested, (draw.choice(("below", "from")), forms[k]), (draw.choice(("below", "from")), forms[k + 1])))
        self.one_of_both(3, nested, ("any", (negated(nested), below(forms[5]))))
        self.one_of_both(3, nested, ("any", (nested, below(forms[5]))))


def bent_first(form, by):
    return (plus(form[0], at(by)),) + form[1:]


def going(values, goal, costs):
    """What going costs; None if it is barred."""
    total = at(0)
    for start, end, (up, down) in zip(values, goal, costs):
        growth = minus(end, start)
        price = up if growth[0] > 0 else down
        if growth[0]:
            if price is None:
                return None
            total = plus(total, times(price, fraction(abs(growth[0]), growth[1])))
    return total


class Mends(unittest.TestCase):
    COST = ((ONE, ONE),)

    def check_mend(self, unknowns, condition, values, costs):
        found = mend(unknowns, condition, values, costs)
        cost, border, inside = found
        self.assertEqual(going(values, border, costs), cost)
        self.assertIsNotNone(going(values, inside, costs))
        for t in (at(1), HALF, (1, 7), (1, 1000)):
            point = along(border, tuple(minus(b, a) for a, b in zip(border, inside)), t)
            self.assertTrue(holds(condition, point))
        self.assertIs(is_mend(unknowns, condition, values, costs, found), True)
        return found

    def test_by_hand(self):
        for condition, value, cost, border in (
                (since(X), -3, 3, 0), (since(X), 0, 0, 0), (since(X), 4, 0, 4), (below(X), 3, 3, 0), (below(X), 0, 0, 0), (below(X), -1, 0, -1),
                (("any", (below(((4, 1), (1, 1))), since(((-9, 1), (1, 1))))), 2, 6, -4),
                (("any", (below(((4, 1), (1, 1))), since(((-9, 1), (1, 1))))), 3, 6, 9)):
            found = self.check_mend(1, condition, (at(value),), self.COST)
            self.assertEqual(found[:2], (at(cost), (at(border),)))
        # a border that does not belong to it
        self.assertNotEqual(mend(1, below(X), (at(3),), self.COST)[2], (at(0),))

    def test_barred_ways(self):
        for costs, wanted in ((((None, ONE),), None), (((ONE, None),), at(3)), (((None, None),), None), (((at(0), None),), at(0))):
            if wanted is None:
                self.assertRaises(CanNot, mend, 1, since(X), (at(-3),), costs)
            else:
                self.assertEqual(self.check_mend(1, since(X), (at(-3),), costs)[0], wanted)
        # below X from 0 on: only by falling
        self.assertRaises(CanNot, mend, 1, below(X), (at(0),), ((ONE, None),))
        self.assertEqual(self.check_mend(1, below(X), (at(0),), ((None, ONE),))[:2], (at(0), (at(0),)))
        self.assertEqual(self.check_mend(1, since(X), (at(0),), ((None, None),)), (at(0), (at(0),), (at(0),)))
        both = ("any", (since(((-5, 1), (1, 1), (0, 1))), since(((-7, 1), (0, 1), (1, 1)))))
        self.assertEqual(self.check_mend(2, both, (at(0), at(0)), ((ONE, ONE), (ONE, ONE)))[0], at(5))
        self.assertEqual(self.check_mend(2, both, (at(0), at(0)), ((None, ONE), (ONE, ONE)))[0], at(7))
        self.assertRaises(CanNot, mend, 2, both, (at(0), at(0)), ((None, ONE), (None, at(0))))

    def test_costs_of_nothing(self):
        found = self.check_mend(2, ("all", (since(((-5, 1), (1, 1), (0, 1))), below(((0, 1), (0, 1), (1, 1))))), (at(0), at(4)), ((at(0), ONE), (ONE, at(0))))
        self.assertEqual(found[0], at(0))
        self.assertEqual(self.check_mend(3, ("all", ()), (at(1), at(2), at(3)), ((None, None),) * 3), (at(0),) + ((at(1), at(2), at(3)),) * 2)
        self.assertEqual(self.check_mend(0, ("all", ()), (), ()), (at(0), (), ()))
        self.assertRaises(CanNot, mend, 0, ("any", ()), (), ())
        self.assertRaises(CanNot, mend, 2, ("all", (below(X + (at(0),)), since(X + (at(0),)))), (at(1), at(2)), ((ONE, ONE),) * 2)

    def test_beside_a_search(self):
        draw = random.Random(9)
        many = 0
        for _ in range(200):
            unknowns = draw.randint(1, 2)
            forms = [tuple(at(draw.randint(-3, 3)) for _ in range(unknowns + 1)) for _ in range(draw.randint(1, 4))]
            condition = a_condition(draw, forms, 2)
            values = tuple(at(draw.randint(-3, 3)) for _ in range(unknowns))
            costs = tuple(tuple(None if draw.random() < 0.2 else at(draw.randint(0, 3)) for _ in range(2)) for _ in range(unknowns))
            grid = [fraction(k, 4) for k in range(-40, 41)] if unknowns == 1 else [fraction(k, 2) for k in range(-16, 17)]
            told = [going(values, point, costs) for point in itertools.product(grid, repeat=unknowns) if holds(condition, point)]
            told = [cost for cost in told if cost is not None]
            try:
                found = self.check_mend(unknowns, condition, values, costs)
            except CanNot:
                self.assertEqual(told, [])
                continue
            many += 1
            self.assertFalse(any(less(cost, found[0]) for cost in told))
        self.assertGreater(many, 100)

    def test_is_mend_bent(self):
        condition = ("any", (below(((4, 1), (1, 1))), since(((-9, 1), (1, 1)))))
        for thing, wanted in (
                ((at(6), (at(9),), (at(9),)), True), ((at(6), (at(9),), (at(11),)), True), ((at(6), (at(9),), (at(8),)), False),
                ((at(6), (at(9),), (at(-9),)), False), ((at(6), (at(10),), (at(10),)), False), ((at(7), (at(10),), (at(10),)), False), ((at(7), (at(-4),), (at(-5),)), False),
                ((at(5), (at(9),), (at(9),)), False), ((at(5), (at(8),), (at(9),)), False), ((6, (at(9),), (at(9),)), False),
                (((12, 2), (at(9),), (at(9),)), False), ((at(6), (at(9), at(0)), (at(9),)), False), ((at(6), (at(9),), ()), False),
                ((at(6), at(9), at(9)), False), ([at(6), (at(9),), (at(9),)], False), ((at(6), [at(9)], (at(9),)), False), (None, False), ((), False),
                ((at(6), (at(9),)), False), ((at(6), (at(9),), (at(9),), 0), False), ((None, (at(9),), (at(9),)), False)):
            self.assertIs(is_mend(1, condition, (at(3),), self.COST, thing), wanted, thing)
        # to what is inside the way may not be barred either, and a border may not belong to it
        open_end = below(((0, 1), (1, 1)))
        self.assertIs(is_mend(1, open_end, (at(0),), self.COST, (at(0), (at(0),), (at(-2),))), True)
        self.assertIs(is_mend(1, open_end, (at(0),), self.COST, (at(0), (at(0),), (at(0),))), False)
        self.assertIs(is_mend(1, open_end, (at(0),), ((ONE, None),), (at(0), (at(0),), (at(-2),))), False)
        self.assertIs(is_mend(1, since(X), (at(-3),), ((None, ONE),), (at(3), (at(0),), (at(0),))), False)
        hole = ("any", (below(X), since(Y)))
        self.assertIs(is_mend(1, hole, (at(0),), self.COST, (at(0), (at(0),), (at(2),))), False)
        self.assertIs(is_mend(1, ("any", ()), (at(0),), self.COST, (at(0), (at(0),), (at(0),))), False)

    def test_rules_for_calls(self):
        condition = ("any", (below(((4, 1), (1, 1))), since(((-9, 1), (1, 1)))))
        given = (1, condition, (at(3),), self.COST)
        check_call(self, mend, ("unknowns", "condition", "values", "costs"), given)
        check_call(self, mend, ("unknowns", "condition", "values", "costs"), (1, since(X), (at(-3),), ((None, ONE),)))
        check_call(self, is_mend, ("unknowns", "condition", "values", "costs", "thing"), given + ((at(6), (at(9),), (at(9),)),), things=(4,))

    def test_of_a_plan(self):
        """What makes a PLAN right costs just so much, as the PLANS at both sides say."""
        draw = random.Random(10)
        mended = 0
        for _ in range(60):
            plan = a_plan(draw, 2, ((True, True),), ())
            names = [name for name in times_of(plan) if name[0] in ("term", "length", "grace")]
            family = (plan, tuple((k, draw.choice(names), (1, 1)) for k in range(3)))
            where = right_where(3, family, 2, "looks")
            costs = tuple((at(draw.randint(0, 3)), at(draw.randint(1, 3))) for _ in range(3))
            try:
                cost, _, inside = self.check_mend(3, where, (at(0),) * 3, costs)
            except CanNot:
                continue
            mended += 1
            one = plan_at(family, inside)
            self.assertTrue(is_plan(one) and (not can_hold(one) or not open_pairs(one, "look")))
            self.assertEqual(cost == at(0), holds(where, (at(0),) * 3) or cost == at(0))
        self.assertGreater(mended, 30)


if __name__ == "__main__":
    unittest.main()
