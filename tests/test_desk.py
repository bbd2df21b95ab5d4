"""[27]: a Desk and what it is asked."""

import random
import unittest

from plainlock.desk import Desk, replies, reply
from plainlock.errors import CanNot, NoPlace, TooMany, Unfit
from plainlock.plans import changed, scaled, settings, setting
from plainlock.right import bad_run, must_ask, reasons
from plainlock.texts import events_text, fraction_text, plan_text
from plainlock.ways import open_pairs, overlap, ways, widest
from tests.drawing import a_fraction, a_plan
from tests.helping import LONE, ONE, at, check_call, listed, outcome

SURE = changed(LONE, ("length", 0), (17, 2))
# Two LOTS, all faults but one, so that each HOW occurs.
MANY = (((0,), (0, 1)), ((at(8), "number", at(2)), (None, "all", at(0)))) + LONE[2:4] + (
    (at(10), "sent", at(0), "once", False), ((True, True), (False, True)), ("bare grant", "bare release", "forgets", "revives"))


class Desks(unittest.TestCase):
    def test_deeds(self):
        desk = Desk(LONE)
        self.assertEqual((desk.plan(), desk.depth()), (LONE, (0, 0)))
        self.assertIsNone(desk.put(("length", 0), (17, 2)))
        self.assertEqual((desk.plan(), desk.depth()), (SURE, (1, 0)))
        self.assertIsNone(desk.scale(at(2)))
        self.assertEqual((desk.plan(), desk.depth()), (scaled(SURE, at(2)), (2, 0)))
        self.assertIsNone(desk.undo())
        self.assertEqual((desk.plan(), desk.depth()), (SURE, (1, 1)))
        desk.undo()
        self.assertEqual((desk.plan(), desk.depth()), (LONE, (0, 2)))
        self.assertIsNone(desk.redo())
        desk.redo()
        self.assertEqual((desk.plan(), desk.depth()), (scaled(SURE, at(2)), (2, 0)))
        desk.undo()
        # A deed that leaves the PLAN as it is counts as one, and nothing can be done again behind it.
        desk.put(("length", 0), (17, 2))
        self.assertEqual((desk.plan(), desk.depth()), (SURE, (2, 0)))
        desk.scale(ONE)
        self.assertEqual((desk.plan(), desk.depth()), (SURE, (3, 0)))

    def test_errors_behind_which_all_is_as_before(self):
        desk = Desk(LONE)
        desk.put(("length", 0), (17, 2))
        desk.put(("term",), at(3))
        desk.undo()
        for call, given, wanted in (
                (desk.put, (("length", 1), at(3)), NoPlace), (desk.put, (("length", 1), "x"), NoPlace), (desk.put, ((), at(3)), NoPlace),
                (desk.put, (("term",), None), Unfit), (desk.put, (("slow", "client"), at(2)), Unfit), (desk.put, (("faults",), ("revived",)), Unfit),
                (desk.scale, (at(0),), Unfit), (desk.scale, ((-1, 2),), Unfit)):
            with self.assertRaises(wanted):
                call(*given)
            self.assertEqual((desk.plan(), desk.depth()), (SURE, (1, 1)))
        desk.redo()
        with self.assertRaises(CanNot):
            desk.redo()
        self.assertEqual(desk.depth(), (2, 0))
        desk.undo()
        desk.undo()
        with self.assertRaises(CanNot):
            desk.undo()
        self.assertEqual((desk.plan(), desk.depth()), (LONE, (0, 2)))

    def test_a_hundred_deeds_and_one(self):
        desk = Desk(LONE)
        for k in range(100):
            desk.put(("term",), at(k))
        self.assertEqual(desk.depth(), (100, 0))
        plan = desk.plan()
        for call, given, wanted in ((desk.put, (("term",), at(7)), TooMany), (desk.scale, (ONE,), TooMany), (desk.put, (("term",), None), Unfit),
                                    (desk.put, (("length", 9), None), NoPlace), (desk.scale, (at(0),), Unfit)):
            with self.assertRaises(wanted):
                call(*given)
            self.assertEqual((desk.plan(), desk.depth()), (plan, (100, 0)))
        desk.undo()
        with self.assertRaises(Unfit):
            desk.scale(at(0))
        desk.redo()
        desk.undo()
        desk.scale(at(2))
        self.assertEqual((setting(desk.plan(), ("term",)), desk.depth()), (at(196), (100, 0)))
        for _ in range(100):
            desk.undo()
        self.assertEqual((desk.plan(), desk.depth()), (LONE, (0, 100)))

    def test_twins(self):
        desk = Desk(LONE)
        desk.scale(at(2))
        desk.scale(at(3))
        desk.undo()
        twin = desk.twin()
        self.assertEqual((twin.plan(), twin.depth()), (desk.plan(), (1, 1)))
        twin.redo()
        self.assertEqual((twin.plan(), twin.depth(), desk.depth()), (scaled(LONE, at(6)), (2, 0), (1, 1)))
        desk.undo()
        self.assertEqual((desk.plan(), twin.depth()), (LONE, (2, 0)))
        twin.put(("term",), at(1))
        self.assertEqual(desk.depth(), (0, 2))

    def test_copies_what_it_is_given(self):
        given = listed(LONE)
        desk = Desk(given)
        given[4][0] = [0, 1]
        self.assertEqual(desk.plan(), LONE)
        name, value = ["lots"], [[0]]
        desk.put(name, value)
        value[0].append(7)
        name[0] = "x"
        self.assertEqual(desk.plan(), LONE)
        desk.put(value=[3, 1], name=["term"])
        desk.scale(factor=[2, 1])
        self.assertEqual(setting(desk.plan(), ("term",)), at(6))
        self.assertEqual(Desk(plan=LONE).plan(), LONE)

    def test_drawn_deeds(self):
        """The PLAN is that of the deeds that stand, done anew."""
        draw = random.Random(270)
        for _ in range(30):
            first = a_plan(draw)
            desk, past, future = Desk(first), [], []
            for _ in range(60):
                roll = draw.random()
                if roll < 0.5:
                    source = a_plan(draw)
                    name = draw.choice(settings(source))
                    deed = (name, setting(source, name)) if roll < 0.4 else (a_fraction(draw, -1, 3),)
                    if "Error" not in outcome(desk.put if len(deed) == 2 else desk.scale, *deed) and done(past, first, deed):
                        past.append(deed)
                        future = []
                elif roll < 0.8:
                    if past:
                        future.append(past.pop())
                        desk.undo()
                    else:
                        self.assertRaises(CanNot, desk.undo)
                elif future:
                    past.append(future.pop())
                    desk.redo()
                else:
                    self.assertRaises(CanNot, desk.redo)
                self.assertEqual(desk.depth(), (len(past), len(future)))
                self.assertEqual(desk.plan(), anew(first, past))


def anew(first, deeds):
    for deed in deeds:
        first = changed(first, *deed) if len(deed) == 2 else scaled(first, *deed)
    return first


def done(past, first, deed):
    """Whether this deed can be done behind these."""
    try:
        anew(anew(first, past), [deed])
    except (Unfit, NoPlace):
        return False
    return True


class Requests(unittest.TestCase):
    def ask(self, plan, *requests):
        return [told for told in replies(plan, requests)]

    def test_settings(self):
        for request, name, value in (
                ("lots 0", ("lots",), ((0,),)), ("lots 0 0.1", ("lots",), ((0,), (0, 1))), ("faults", ("faults",), ()), ("faults forgets", ("faults",), ("forgets",)),
                ("faults bare-grant bare-release", ("faults",), ("bare grant", "bare release")), ("term 7/2", ("term",), (7, 2)),
                ("counts taken", ("counts",), "taken"), ("stop none", ("stop",), None), ("stop 0", ("stop",), at(0)), ("releases waits", ("releases",), "waits"),
                ("sealed no", ("sealed",), False), ("length 1 none", ("length", 1), None), ("record 0 all", ("record", 0), "all"),
                ("grace 0 3", ("grace", 0), at(3)), ("asks 1 yes", ("asks", 1), True), ("keeps 0 no", ("keeps", 0), False),
                ("slow client 1/2", ("slow", "client"), (1, 2)), ("fast keeper 2", ("fast", "keeper"), at(2)), ("least back 1/9", ("least", "back"), (1, 9)),
                ("most ask none", ("most", "ask"), None), ("most grant 9", ("most", "grant"), at(9))):
            desk = Desk(MANY)
            self.assertEqual(reply(desk, "set " + request), ["done"], request)
            self.assertEqual(desk.plan(), changed(MANY, name, value))
            self.assertEqual(desk.depth(), (1, 0))

    def test_what_does_not_fit(self):
        for request, told in (
                ("set sealed yes", "unfit"), ("set term none", "unfit"), ("set term yes", "unfit"), ("set term sent", "unfit"), ("set lots 0.1 0", "unfit"),
                ("set lots 2", "unfit"), ("set faults revives forgets", "unfit"), ("set faults revives revives", "unfit"), ("set slow client 2", "unfit"),
                ("set counts once", "unfit"), ("set asks 0 1", "unfit"), ("set length 2 3", "no place"), ("set keeps 2 yes", "no place"),
                ("set grace 9 none", "no place"), ("scale 0", "unfit"), ("scale -1", "unfit"), ("undo", "cannot"), ("redo", "cannot"),
                ("overlap 0 1 0 lapse look", "unfit"), ("overlap 0 0 1 lapse look", "unfit"), ("overlap 0 0 7 lapse look", "unfit"),
                ("overlap 0.1 0.1 1 lapse look", "unfit"), ("widest 0 1 look", "unfit"), ("widest 2 0 store", "unfit")):
            desk = Desk(MANY)
            self.assertEqual(reply(desk, request), [told], request)
            self.assertEqual((desk.plan(), desk.depth()), (MANY, (0, 0)))
        self.assertEqual(reply(Desk(LONE), "run 2 looks")[0].split(" ")[0], "c0")
        self.assertEqual(reply(Desk(SURE), "run 2 looks"), ["cannot"])
        self.assertEqual(reply(Desk(changed(LONE, ("keeps", 0), False)), "must"), ["cannot"])
        full = Desk(LONE)
        for _ in range(100):
            full.scale(ONE)
        self.assertEqual([reply(full, request) for request in ("set term 1", "scale 2", "scale 0", "set term none")], [["too many"], ["too many"], ["unfit"], ["unfit"]])
        big = Desk(LONE)
        big.put(("term",), at(10 ** 1001))
        self.assertEqual([reply(big, request) for request in ("show", "overlap 0 0 0 lapse look", "widest 0 0 store", "run 2 looks")], [["too many"]] * 4)
        self.assertEqual(reply(big, "right 2 looks"), ["wrong look"])

    def test_unknown(self):
        for request in (
                "", " ", "sets", "set", "set term", "set term 1 2", "set  term 1", "set term 01", "set term 1.5", "set term 6/4", "set term x", "set terms 1",
                "set length 1", "set length -1 3", "set length x 3", "set length 0 3 4", "set slow 0 1", "set slow store 1", "set least client 1", "set most take 1",
                "set lots", "set lots 1.0", "set lots 0.0", "set lots none", "set lots 0 ", "set faults bare", "set faults bare grant", "set faults none",
                "set faults 1", "set sealed True", "set counts Sent", "set record 0 some", "scale", "scale 1 2", "scale none", "scale 2/4", "undo 1", "redo ",
                " undo", "Undo", "UNDO", "show all", "depth 1", "right", "right 2", "right looks", "right 0 looks", "right 10 looks", "right 2 look", "right 01 looks",
                "right -1 looks", "right 2 looks deeds", "right 3/2 looks", "run 2", "run 0 deeds", "run 2 all", "must 1", "overlap 0 0 0 lapse", "overlap 0 0 0 lapses look",
                "overlap 0 0 0 elder release look", "overlap 0 0 -1 lapse look", "overlap 0 0 none lapse look", "overlap 1.0 0 0 lapse look", "overlap 0 0 0 lapse looks",
                "overlap 0 0 0 lapse look 1", "widest 0 look", "widest 0 0", "widest 0 0 deed", "widest 0 0 look look", "widest x 0 look", "open", "open looks",
                "open look store", "undo\n", "show\nshow", "\tundo", "set term " + "1" * 1001, "scale " + "1" * 1001, "open\tlook"):
            desk = Desk(LONE)
            desk.scale(at(2))
            self.assertEqual(reply(desk, request), ["unknown"], request)
            self.assertEqual((desk.plan(), desk.depth()), (scaled(LONE, at(2)), (1, 0)))

    def test_questions(self):
        draw = random.Random(271)
        for k in range(60):
            plan = a_plan(draw) if k else MANY
            desk = Desk(plan)
            for locks in (1, 2, 9):
                for language in ("looks", "deeds"):
                    why = reasons(plan, locks, language)
                    self.assertEqual(reply(desk, f"right {locks} {language}"), ["wrong " + " ".join(why)] if why else ["right"])
                    told = reply(desk, f"run {locks} {language}")
                    self.assertEqual(told, events_text(bad_run(plan, locks, language)).split("\n") if why else ["cannot"])
            for goal in ("look", "store"):
                pairs = open_pairs(plan, goal)
                self.assertEqual(reply(desk, "open " + goal), [dotted(lot) + " " + dotted(other) for lot, other in pairs] or ["shut"])
                for way in draw.sample(ways(plan), min(6, len(ways(plan)))):
                    lot, other, keeper, how = way
                    asked = f"overlap {dotted(lot)} {dotted(other)} {keeper} {how.replace(' ', '-')} {goal}"
                    width = overlap(plan, way, goal)
                    self.assertEqual(reply(desk, asked), ["none" if width is None else fraction_text(width)])
                    width = widest(plan, lot, other, goal)
                    self.assertEqual(reply(desk, f"widest {dotted(lot)} {dotted(other)} {goal}"), ["none" if width is None else fraction_text(width)])
            must = outcome(must_ask, plan)
            self.assertEqual(reply(desk, "must"), ["cannot"] if "CanNot" in must else [" ".join(["stores"] + [str(place) for place in must_ask(plan)])])
            self.assertEqual(reply(desk, "show"), plan_text(plan).split("\n"))
            self.assertEqual(reply(desk, "depth"), ["undo 0 redo 0"])
            self.assertEqual((desk.plan(), desk.depth()), (plan, (0, 0)))

    def test_each_how(self):
        for how, told in (("lapse", "0"), ("fall", "6"), ("release", "-2"), ("elder-release", "8"), ("late-grant", "none"), ("forgotten", "none"), ("revived", "none")):
            self.assertEqual(reply(Desk(MANY), f"overlap 0 0.1 0 {how} look"), [told])
            if how not in ("lapse", "release"):
                self.assertEqual(reply(Desk(LONE), f"overlap 0 0 0 {how} look"), ["unfit"])
        self.assertEqual(self.ask(SURE, "must", "open look", "open store", "right 9 deeds"), [("stores 0",), ("shut",), ("0 0",), ("right",)])
        self.assertEqual(self.ask(changed(LONE, ("term",), ONE), "must", "open store"), [("stores",), ("shut",)])

    def test_rows_of_requests(self):
        told = self.ask(LONE, "set term 20", "depth", "undo", "set sealed yes", "redo", "depth", "show", "scale 1/2", "undo", "redo", "depth", "overlap 0 0 0 lapse look")
        self.assertEqual(told, [("done",), ("undo 1 redo 0",), ("done",), ("done",), ("cannot",), ("undo 1 redo 0",),
                                tuple(plan_text(changed(LONE, ("sealed",), True)).split("\n")), ("done",), ("done",), ("done",), ("undo 2 redo 0",), ("-1",)])
        self.assertEqual(replies(LONE, ()), ())

    def test_two_hundred(self):
        requests = ["scale 2", "scale 1/2", "right 2 looks", "undo"] * 50
        told = replies(LONE, tuple(requests))
        self.assertEqual(len(told), 200)
        self.assertEqual(told[2], ("wrong look",))
        self.assertEqual(replies(LONE, requests), told)
        many = replies(LONE, ("scale 2", "scale 1/2") * 100)
        self.assertEqual(many, (("done",),) * 100 + (("too many",),) * 100)


def dotted(lot):
    return ".".join(map(str, lot))


class Calls(unittest.TestCase):
    def test_rules_for_every_function(self):
        for requests in (("set term 20", "right 2 looks", "show"), ("undo", "x"), ()):
            check_call(self, replies, ("plan", "requests"), (LONE, requests))
        desk, twin = Desk(LONE), Desk(listed(LONE))
        for request in ("set term 20", "right 2 looks", "undo", "undo", "x", "show"):
            told = reply(desk=desk, request=request)
            self.assertEqual(reply(twin, request), told)
            told.append("mine")
            self.assertNotIn("mine", reply(desk.twin(), request))
        self.assertEqual(desk.depth(), twin.depth())


if __name__ == "__main__":
    unittest.main()
