"""[3], [8]: PLANS and their SETTINGS."""

import itertools
import unittest

from plainlock.errors import NoPlace, Unfit
from plainlock.fractions import times
from plainlock.plans import (
    can_hold, changed, covers, is_plan, longest_belief, same_but_times, scaled, setting, settings, shortest_keep, times_of)
from tests.helping import LONE, ONE, SLOPE, TWO, bent, check_call, listed

FULL = (
    ((0, 1), (0, 3), (1,)),
    (((8, 1), "all", (0, 1)), (None, "number", (5, 2)), ((7, 3), "all", ONE), ((0, 1), "number", (0, 1))),
    (((1, 2), (3, 2)), ((9, 10), ONE)),
    (((1, 2), TWO), (ONE, ONE), ((1, 3), None), ((2, 3), (3, 1))),
    ((10, 1), "taken", None, "waits", False),
    ((True, False), (False, True)),
    ("bare grant", "revives"),
)
FAULTS = ("bare grant", "bare release", "forgets", "revives")


class Forms(unittest.TestCase):
    def test_right(self):
        for thing in (LONE, FULL):
            self.assertIs(is_plan(thing), True)
        lets = [
            # LOTS: any number of them, keepers in no LOT, a LOT inside another one
            ((0,), ((0,),)), ((0,), ((0,), (0, 1), (0, 1, 2, 3), (3,))), ((0,), ((3,),)),
            # lengths and graces at their edges
            ((1, 0, 0), (0, 1)), ((1, 0, 0), None), ((1, 0, 2), (10 ** 40, 7)), ((1, 1, 1), "all"),
            # CLOCKS and LEGS at their very edges
            ((2, 0), (ONE, ONE)), ((2, 0), ((1, 10 ** 30), (10 ** 30, 1))), ((2, 1), (ONE, (9, 1))), ((2, 1), ((1, 9), ONE)),
            ((3, 0), ((1, 10 ** 30), (1, 10 ** 30))), ((3, 1), (ONE, None)), ((3, 3), ((10 ** 30, 1), None)),
            ((4, 0), (0, 1)), ((4, 1), "sent"), ((4, 2), (0, 1)), ((4, 2), (1, 7)), ((4, 3), "once"),
            ((5,), ((True, True),)), ((5,), ((False, False),) * 9),
        ]
        for path, new in lets:
            self.assertIs(is_plan(bent(FULL, path, new)), True, (path, new))
        for many in range(5):
            for some in itertools.combinations(FAULTS, many):
                self.assertIs(is_plan(bent(FULL, (6,), some)), True)
        self.assertIs(is_plan(bent(LONE, (4, 4), True)), True)

    def test_bent(self):
        bends = [
            ((), list), ((), lambda plan: plan[:6]), ((), lambda plan: plan + ((),)), ((), None), ((), True), ((), "plan"), ((), 7), ((), ()),
            ((0,), ()), ((0,), list), ((0,), None), ((0,), ((),)), ((0,), ((0,), ())), ((0,), ((0,), (0,))), ((0,), ((1,), (0,))),
            ((0,), ((0, 1), (0,))), ((0,), (0,)), ((0, 0), [0, 1]), ((0, 0), (1, 0)), ((0, 0), (0, 0)), ((0, 0), (0, 4)), ((0,), ((4,),)),
            ((0, 0), (-1, 0)), ((0, 0), (0, True)), ((0, 0), (None,)), ((0, 0), ("0",)), ((0, 0), ((0,),)), ((0, 0), 0), ((0, 0), True),
            ((0,), ((0, 1), (1,), (0, 3))), ((0,), ((0, 1), (0, 1), (1,))),
            ((1,), ()), ((1,), list), ((1,), None), ((1,), lambda keepers: keepers[:3]), ((1, 0), list), ((1, 0), ((8, 1), "all")),
            ((1, 0), ((8, 1), "all", (0, 1), (0, 1))), ((1, 0, 0), (-1, 9)), ((1, 0, 0), 8), ((1, 0, 0), (16, 2)), ((1, 0, 0), [8, 1]),
            ((1, 0, 0), True), ((1, 0, 0), "8"), ((1, 0, 1), "some"), ((1, 0, 1), None), ((1, 0, 1), ""), ((1, 0, 1), ("all",)),
            ((1, 0, 1), True), ((1, 0, 1), "ALL"), ((1, 0, 2), None), ((1, 0, 2), (-1, 9)), ((1, 0, 2), 0), ((1, 0, 2), (0, 2)), ((1, 0), None),
            ((2,), ()), ((2,), list), ((2,), None), ((2,), (SLOPE,)), ((2,), (SLOPE, SLOPE, SLOPE)), ((2, 0), list), ((2, 0), None),
            ((2, 0, 0), (0, 1)), ((2, 0, 0), (-1, 2)), ((2, 0, 0), (11, 10)), ((2, 0, 1), (9, 10)), ((2, 0, 0), None), ((2, 0, 1), None),
            ((2, 1, 0), 1), ((2, 1, 1), (2, 2)), ((2, 1), (ONE,)), ((2, 1), (ONE, ONE, ONE)),
            ((3,), ()), ((3,), list), ((3,), None), ((3,), lambda legs: legs[:3]), ((3,), lambda legs: legs + legs[:1]), ((3, 0), list),
            ((3, 0), (ONE,)), ((3, 0), (ONE, ONE, ONE)), ((3, 0, 0), (0, 1)), ((3, 0, 0), (-1, 2)), ((3, 0, 0), None), ((3, 1, 1), (9, 10)),
            ((3, 0, 0), (21, 10)), ((3, 1, 1), 1), ((3, 1, 1), True), ((3, 2, 1), (1, 4)), ((3, 3), None), ((3, 2, 1), ()),
            ((4,), ()), ((4,), list), ((4,), None), ((4,), lambda parts: parts[:4]), ((4,), lambda parts: parts + (False,)),
            ((4, 0), (-1, 9)), ((4, 0), None), ((4, 0), 10), ((4, 0), (20, 2)), ((4, 1), "given"), ((4, 1), None), ((4, 1), True),
            ((4, 2), (-1, 9)), ((4, 2), 0), ((4, 2), False), ((4, 3), "twice"), ((4, 3), None), ((4, 3), False), ((4, 4), 0), ((4, 4), None),
            ((4, 4), "yes"), ((4, 4), True), ((4, 4), 1), ((4, 1), ("sent",)), ((4, 3), []),
            ((5,), ()), ((5,), list), ((5,), None), ((5, 0), list), ((5, 0), (True,)), ((5, 0), (True, True, True)), ((5, 0, 0), 1),
            ((5, 0, 1), 0), ((5, 0, 0), None), ((5, 0, 1), "yes"), ((5, 0), True),
            ((6,), list), ((6,), None), ((6,), ("revives", "bare grant")), ((6,), ("revives", "revives")), ((6,), ("bare",)), ((6,), "revives"),
            ((6,), (("revives",),)), ((6,), (True,)), ((6,), (None,)), ((6,), ("bare grant", "bare grants")), ((6,), ("",)), ((6,), False),
        ]
        for path, new in bends:
            thing = bent(FULL, path, new)
            self.assertIs(is_plan(thing), False, (path, thing))

    def test_sealed_has_no_faults(self):
        for fault in FAULTS:
            self.assertIs(is_plan(bent(LONE, (6,), (fault,))), True)
            self.assertIs(is_plan(bent(bent(LONE, (6,), (fault,)), (4, 4), True)), False)


class Settings(unittest.TestCase):
    def wanted(self, keepers, stores):
        names = [(word,) for word in ("lots", "faults", "term", "counts", "stop", "releases", "sealed")]
        names += [(word, k) for word in ("length", "record", "grace") for k in range(keepers)]
        names += [(word, k) for word in ("asks", "keeps") for k in range(stores)]
        names += [(word, who) for word in ("slow", "fast") for who in ("client", "keeper")]
        names += [(word, leg) for word in ("least", "most") for leg in ("ask", "grant", "deed", "back")]
        return tuple(sorted(names))

    def test_settings(self):
        self.assertEqual(settings(LONE), self.wanted(1, 1))
        self.assertEqual(settings(FULL), self.wanted(4, 2))
        self.assertEqual((len(settings(LONE)), len(settings(FULL))), (24, 35))

    def test_times_of(self):
        self.assertEqual(times_of(LONE), (
            ("grace", 0), ("least", "ask"), ("least", "back"), ("least", "deed"), ("least", "grant"), ("length", 0), ("most", "ask"),
            ("most", "deed"), ("most", "grant"), ("stop",), ("term",)))
        self.assertEqual(times_of(FULL), (
            ("grace", 0), ("grace", 1), ("grace", 2), ("grace", 3), ("least", "ask"), ("least", "back"), ("least", "deed"),
            ("least", "grant"), ("length", 0), ("length", 2), ("length", 3), ("most", "ask"), ("most", "back"), ("most", "grant"), ("term",)))

    def test_setting(self):
        told = {
            ("lots",): FULL[0], ("faults",): FULL[6], ("term",): (10, 1), ("counts",): "taken", ("stop",): None, ("releases",): "waits",
            ("sealed",): False, ("length", 0): (8, 1), ("length", 1): None, ("length", 2): (7, 3), ("length", 3): (0, 1),
            ("record", 0): "all", ("record", 1): "number", ("record", 2): "all", ("record", 3): "number", ("grace", 0): (0, 1),
            ("grace", 1): (5, 2), ("grace", 2): ONE, ("grace", 3): (0, 1), ("asks", 0): True, ("asks", 1): False, ("keeps", 0): False,
            ("keeps", 1): True, ("slow", "client"): (1, 2), ("fast", "client"): (3, 2), ("slow", "keeper"): (9, 10), ("fast", "keeper"): ONE,
            ("least", "ask"): (1, 2), ("most", "ask"): TWO, ("least", "grant"): ONE, ("most", "grant"): ONE, ("least", "deed"): (1, 3),
            ("most", "deed"): None, ("least", "back"): (2, 3), ("most", "back"): (3, 1),
        }
        self.assertEqual(sorted(told), list(settings(FULL)))
        for name in told:
            self.assertEqual(repr(setting(FULL, name)), repr(told[name]))
            self.assertEqual(repr(setting(listed(FULL), list(name))), repr(told[name]))

    wrong_names = (
        (), ("lots", 0), ("length",), ("length", 4), ("length", -1), ("length", True), ("length", False), ("length", None), ("length", "0"),
        ("asks", 2), ("asks", True), ("keeps", -1), ("slow",), ("slow", 0), ("slow", "store"), ("least", 0), ("most", "asks"), ("clocks",),
        (None,), (0,), ("Term",), ("term", "term"), (("term",),), ("length", (0,)), ("length", 0, 0), (True,), ("keepers",), ("record", 10 ** 30),
    )

    def test_no_place(self):
        for name in self.wrong_names:
            for call in (lambda: setting(FULL, name), lambda: changed(FULL, name, ONE), lambda: changed(FULL, name, None)):
                with self.assertRaises(NoPlace) as caught:
                    call()
                self.assertEqual(repr(caught.exception.place), repr(name))
            with self.assertRaises(NoPlace) as caught:
                setting(FULL, listed(name))
            self.assertEqual(repr(caught.exception.place), repr(name))

    def test_changed(self):
        values = {
            "lots": ((0, 2), (3,)), "faults": ("forgets",), "term": (1, 3), "counts": "sent", "stop": (5, 1), "releases": "once", "sealed": False,
            "length": (4, 1), "record": "all", "grace": (4, 7), "asks": False, "keeps": True, "slow": (1, 7), "fast": (7, 1), "least": (1, 9),
            "most": (9, 1),
        }
        for name in settings(FULL):
            new = changed(FULL, name, values[name[0]])
            self.assertTrue(is_plan(new))
            self.assertEqual(setting(new, name), values[name[0]])
            for other in settings(FULL):
                if other != name:
                    self.assertEqual(setting(new, other), setting(FULL, other))
        self.assertEqual(changed(FULL, ("stop",), None), FULL)
        self.assertEqual(changed(LONE, ("sealed",), True)[4], ((10, 1), "sent", (0, 1), "once", True))
        self.assertEqual(changed(FULL, ["lots"], [[0], [1, 2]])[0], ((0,), (1, 2)))
        self.assertEqual(changed(listed(LONE), ("term",), [3, 2])[4][0], (3, 2))

    def test_changed_unfit(self):
        wrong = [
            (("lots",), ((4,),)), (("lots",), ()), (("faults",), ("x",)), (("faults",), "forgets"), (("term",), None), (("term",), (2, 4)),
            (("counts",), "x"), (("stop",), (-1, 1)), (("releases",), None), (("sealed",), 1), (("sealed",), True), (("length", 0), (-1, 1)),
            (("length", 0), 8), (("record", 0), None), (("grace", 0), None), (("asks", 0), 1), (("keeps", 0), None), (("slow", "client"), (2, 1)),
            (("fast", "keeper"), (1, 2)), (("least", "ask"), (3, 1)), (("most", "grant"), (1, 2)), (("least", "deed"), None), (("most", "back"), ()),
        ]
        for name, value in wrong:
            self.assertRaises(Unfit, changed, FULL, name, value)
            self.assertRaises(Unfit, changed, FULL, name, listed(value))


class Times(unittest.TestCase):
    def test_scaled(self):
        for factor in ((1, 2), (3, 1), ONE, (7, 10 ** 20)):
            for plan in (LONE, FULL):
                new = scaled(plan, factor)
                self.assertTrue(is_plan(new))
                self.assertEqual(times_of(new), times_of(plan))
                for name in settings(plan):
                    wanted = setting(plan, name)
                    if name in times_of(plan):
                        wanted = times(wanted, factor)
                    self.assertEqual(setting(new, name), wanted)
        self.assertEqual(scaled(listed(LONE), [1, 1]), LONE)
        for factor in ((0, 1), (-1, 1), (-1, 10 ** 9)):
            self.assertRaises(Unfit, scaled, LONE, factor)

    def test_longest_belief(self):
        self.assertEqual(longest_belief(LONE), (10, 1))
        self.assertEqual(longest_belief(FULL), (20, 1))
        self.assertEqual(longest_belief(changed(FULL, ("slow", "client"), (2, 3))), (15, 1))
        self.assertEqual(longest_belief(changed(FULL, ("term",), (0, 1))), (0, 1))

    def test_shortest_keep(self):
        plan = changed(FULL, ("fast", "keeper"), (7, 2))
        self.assertEqual([shortest_keep(plan, k) for k in range(4)], [(16, 7), None, (2, 3), (0, 1)])
        for keeper in (4, -1, 10 ** 9):
            with self.assertRaises(NoPlace) as caught:
                shortest_keep(plan, keeper)
            self.assertEqual(caught.exception.place, keeper)

    def test_can_hold(self):
        self.assertIs(can_hold(LONE), True)
        for term, wanted in (((2, 1), True), ((199, 100), False), ((0, 1), False), ((201, 100), True)):
            plan = changed(LONE, ("term",), term)
            self.assertIs(can_hold(plan), wanted)
            self.assertIs(can_hold(changed(plan, ("counts",), "taken")), True)
            self.assertIs(can_hold(changed(plan, ("faults",), ("bare grant",))), True)
            self.assertIs(can_hold(changed(plan, ("faults",), ("bare release", "forgets", "revives"))), wanted)
            self.assertIs(can_hold(changed(plan, ("sealed",), True)), wanted)
        slow = changed(changed(LONE, ("slow", "client"), (1, 2)), ("term",), ONE)
        self.assertIs(can_hold(slow), True)
        self.assertIs(can_hold(changed(slow, ("most", "grant"), None)), True)
        self.assertIs(can_hold(changed(slow, ("least", "grant"), (11, 10))), False)
        self.assertIs(can_hold(changed(slow, ("least", "ask"), (11, 10))), False)
        self.assertIs(can_hold(changed(slow, ("least", "deed"), (3, 1))), True)
        self.assertIs(can_hold(changed(changed(LONE, ("term",), ONE), ("slow", "keeper"), (1, 2))), False)


class Covers(unittest.TestCase):
    free = ("slow", "fast", "least", "most", "stop")

    def test_same_but_times(self):
        values = {
            "lots": ((0, 2), (3,)), "faults": ("forgets",), "term": (1, 3), "counts": "sent", "stop": (5, 1), "releases": "once", "length": (4, 1),
            "record": None, "grace": (4, 7), "asks": None, "keeps": None, "slow": (1, 7), "fast": (7, 1), "least": (1, 9), "most": (9, 1),
        }
        turns = {"all": "number", "number": "all", True: False, False: True}
        for name in settings(FULL):
            if name != ("sealed",):
                value = values[name[0]] if values[name[0]] is not None else turns[setting(FULL, name)]
                other = changed(FULL, name, value)
                self.assertNotEqual(other, FULL)
                self.assertIs(same_but_times(FULL, other), name[0] in self.free, name)
                self.assertIs(same_but_times(other, FULL), name[0] in self.free, name)
                if name[0] not in self.free:
                    self.assertRaises(Unfit, covers, FULL, other)
                    self.assertRaises(Unfit, covers, other, FULL)
        sealed = changed(LONE, ("sealed",), True)
        self.assertIs(same_but_times(LONE, sealed), False)
        self.assertRaises(Unfit, covers, LONE, sealed)
        self.assertIs(same_but_times(FULL, listed(FULL)), True)
        self.assertIs(same_but_times(LONE, FULL), False)
        self.assertIs(same_but_times(LONE, LONE[:1] + (LONE[1] * 2,) + LONE[2:]), False)
        self.assertIs(same_but_times(LONE, LONE[:5] + (LONE[5] * 2,) + LONE[6:]), False)

    def test_covers_itself(self):
        for plan in (LONE, FULL):
            self.assertIs(covers(plan, plan), True)
            self.assertIs(covers(listed(plan), plan), True)

    def base(self):
        told = changed(changed(LONE, ("slow", "client"), (1, 2)), ("slow", "keeper"), (1, 2))
        told = changed(changed(told, ("fast", "client"), (3, 2)), ("fast", "keeper"), (3, 2))
        return changed(changed(told, ("most", "back"), (4, 1)), ("stop",), ONE)

    # what lets more: a name, a value, and whether it counts only where a hold can be had
    wider = (
        (("slow", "client"), (1, 3), False), (("slow", "keeper"), (1, 3), False), (("fast", "client"), TWO, False), (("fast", "keeper"), TWO, False),
        (("least", "ask"), (1, 2), False), (("most", "ask"), (3, 1), False), (("most", "ask"), None, False), (("least", "grant"), (9, 10), False),
        (("most", "grant"), None, False), (("least", "deed"), (1, 2), True), (("most", "deed"), (7, 2), True), (("most", "deed"), None, True),
        (("least", "back"), (1, 2), True), (("most", "back"), (5, 1), True), (("most", "back"), None, True), (("stop",), (3, 2), True),
        (("stop",), None, True),
    )

    def test_each_part(self):
        plan = self.base()
        self.assertTrue(can_hold(plan))
        for name, value, _ in self.wider:
            other = changed(plan, name, value)
            self.assertIs(covers(plan, other), True, name)
            self.assertIs(covers(other, plan), False, name)
        for name in (("most", "back"), ("stop",)):
            endless = changed(plan, name, None)
            self.assertIs(covers(endless, endless), True)

    def test_without_a_hold(self):
        plan = changed(self.base(), ("term",), (1, 10))
        for name, value, only_held in self.wider:
            other = changed(plan, name, value)
            self.assertFalse(can_hold(plan) or can_hold(other))
            self.assertIs(covers(plan, other), True, name)
            self.assertIs(covers(other, plan), only_held, name)

    def test_a_hold_of_plan_not_of_other(self):
        # plan can have a hold by its slower clocks, other can not
        plan = changed(changed(self.base(), ("term",), TWO), ("slow", "client"), (1, 2))
        other = changed(changed(plan, ("least", "ask"), TWO), ("least", "grant"), TWO)
        self.assertEqual((can_hold(plan), can_hold(other)), (True, True))
        other = changed(other, ("slow", "client"), ONE)
        self.assertEqual((can_hold(plan), can_hold(other)), (True, False))
        self.assertIs(covers(other, changed(plan, ("stop",), (0, 1))), True)
        self.assertIs(covers(plan, other), False)

    def test_unfit_ahead(self):
        self.assertRaises(Unfit, covers, LONE, changed(changed(LONE, ("term",), (9, 1)), ("most", "ask"), None))


class Calls(unittest.TestCase):
    def test_every_call(self):
        for plan in (LONE, FULL):
            check_call(self, is_plan, ("thing",), (plan,), things=(0,))
            for call in (settings, times_of, longest_belief, can_hold):
                check_call(self, call, ("plan",), (plan,))
            for name in settings(plan) + (("length", 9),):
                check_call(self, setting, ("plan", "name"), (plan, name))
                check_call(self, changed, ("plan", "name", "value"), (plan, name, (3, 1)))
                check_call(self, changed, ("plan", "name", "value"), (plan, name, ((0,),)))
            for keeper in (0, 1, 9):
                check_call(self, shortest_keep, ("plan", "keeper"), (plan, keeper))
            for factor in ((3, 2), (0, 1)):
                check_call(self, scaled, ("plan", "factor"), (plan, factor))
            for other in (LONE, FULL, changed(LONE, ("most", "ask"), None)):
                check_call(self, same_but_times, ("plan", "other"), (plan, other))
                check_call(self, covers, ("plan", "other"), (plan, other))


if __name__ == "__main__":
    unittest.main()
