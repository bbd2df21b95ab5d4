"""[25]: CLAIMS, PAPERS, BOOKS."""

import random
import unittest

from plainlock.borders import holds
from plainlock.errors import CanNot
from plainlock.judge import cut_to, first_gap, follows_from, is_book, is_claim, is_paper_against, is_paper_for, is_so, paper
from plainlock.lots import order_of, ticket_rows
from plainlock.plain import list_of, misfit, told_by
from plainlock.plans import changed, covers, same_but_times
from plainlock.right import bad_run, is_right, proof
from plainlock.runs import first_broken, telling
from plainlock.sheets import lines_of
from plainlock.ways import open_run, sheet
from tests.drawing import a_fraction, a_list, a_plan, a_run
from tests.helping import LONE, ONE, at, bent, check_call, listed, outcome
from tests.test_changes import TOGETHER, a_change

SURE = changed(LONE, ("length", 0), (17, 2))
EAGER = changed(LONE, ("term",), at(20))
NO_HOLD = changed(LONE, ("term",), ONE)
TWO_OF = ((0, 1), (0, 2), (1, 2))
X, Y = ((0, 1), ONE), ((-1, 1), ONE)
LINE = (((0, ONE),), at(3))
OPEN, SHUT = (LINE, (((0, (-1, 1)),), (-2, 1))), (LINE, (((0, (-1, 1)),), (-4, 1)))
WAY = ((0,), (0,), 0, "lapse")
DESK = ((ONE, at(2)),), (0, 0, 0), (), ((0, 1, at(4), None), (0, 2, at(0), at(6))), ()
LATE = DESK[:4] + (((2, 1, at(-3)),),)
RUN = open_run(LONE, (0,), (0,), "look")
LEFT = (("ask", 0), ("told", 0, (1, 0)), ("ask", 1), ("told", 1, (2, 0)), ("look", 0, True))
RIGHT = (("ask", 1), ("told", 1, (1, 1)), ("ask", 0), ("told", 0, (2, 1)), ("look", 1, True))
CROSSED, HALF = ((("client", 0), LEFT), (("client", 1), RIGHT)), ((("client", 0), LEFT), (("client", 1), RIGHT[:4]))
MISFIT = ((("client", 0), (("ask", 0), ("released", 0))),)
SHARED, INTENT = ((0,), ()), ((0, 1, 2), (0, 1), (0, 2))
LONG = changed(changed(SURE, ("term",), at(12)), ("length", 0), at(11))
CHANGE = (LONG, SURE, (("start", "stop"), ("keepers",)), (at(1),))

# For each word CLAIMS that are so, and that are not.
SO = (
    ("lines", OPEN), ("lines", ()), ("sheet", DESK), ("within", 1, ("below", X), ("below", Y)), ("within", 0, ("any", ()), ("any", ())),
    ("run", LONE, RUN), ("run", LONE, ()), ("plain", HALF), ("plain", ()), ("right", SURE, 2, "looks"), ("right", EAGER, 1, "deeds"),
    ("right", NO_HOLD, 3, "looks"), ("roster", TWO_OF[:2], (0, 1)), ("kinds", (SHARED, True, ())), ("kinds", (INTENT, True, ((0, 1), (0, 2)))),
    ("smooth", CHANGE[:3] + (((201, 100),),)), ("smooth", (SURE, SURE, TOGETHER, ())))
NOT_SO = (
    ("lines", SHUT), ("sheet", LATE), ("within", 1, ("below", Y), ("below", X)), ("within", 2, ("all", ()), ("any", ())), ("run", LONE, RUN[1:]),
    ("plain", CROSSED), ("plain", MISFIT), ("right", EAGER, 2, "looks"), ("right", EAGER, 9, "deeds"),
    ("right", changed(LONE, ("keeps", 0), False), 1, "looks"), ("roster", TWO_OF, (0, 1, 2)), ("roster", TWO_OF[:2], (1, 2)), ("roster", ((0,),), ()),
    ("kinds", (SHARED, False, ())), ("kinds", (INTENT, True, ((0, 1),))), ("smooth", CHANGE), ("smooth", (SURE, LONG, TOGETHER, ())))


class Claims(unittest.TestCase):
    def test_so_and_not(self):
        for claim in SO + NOT_SO:
            self.assertIs(is_claim(claim), True, claim)
            self.assertIs(is_so(claim), claim in SO, claim)
            told = paper(claim)
            self.assertIs(is_paper_for(claim, told), claim in SO, claim)
            self.assertIs(is_paper_against(claim, told), claim in NOT_SO, claim)

    def test_bent(self):
        for claim in SO + NOT_SO:
            for thing in (list(claim), listed(claim), claim[:1], claim[1:], claim + (0,), (claim[0],) + claim[2:], ("line",) + claim[1:],
                          (None,) + claim[1:], ([],) + claim[1:], claim[:-1] + (None,), (claim[0], claim), (True,) + claim[1:]):
                self.assertIs(is_claim(thing), False, thing)
        for thing in (None, (), 5, "lines", "right", ((),), ("lines",), ("lines", [LINE]), ("lines", LINE), ("sheet", DESK[:4]), ("within", 1, ("below", X)),
                      ("within", 4, ("all", ()), ("all", ())), ("within", -1, ("all", ()), ("all", ())), ("within", True, ("below", X), ("below", X)),
                      ("within", 2, ("below", X), ("below", X)), ("within", 1, ("below", X), ("under", X)), ("within", 1, ("under", X), ("below", X)), ("run", LONE, RUN, ()), ("run", LONE, (5,)),
                      ("run", (LONE, LONE), RUN), ("run", LONE, ((("keeper", 1), ONE, ONE, ("fall",)),)), ("run", RUN, LONE), ("plain", (LEFT,)),
                      ("right", SURE, 0, "looks"), ("right", SURE, True, "looks"), ("right", SURE, 2, "look"), ("right", SURE, "looks", 2),
                      ("right", SURE, 2), ("roster", (), (0,)), ("roster", TWO_OF, (1, 0)), ("roster", TWO_OF, (7,)), ("roster", TWO_OF, (True,)),
                      ("roster", TWO_OF, None), ("kinds", (SHARED, 1, ())), ("kinds", SHARED), ("smooth", CHANGE[:3]), ("smooth", CHANGE[:3] + ((),)),
                      ("smooth",) + CHANGE, ("right", changed(SURE, ("sealed",), True)[:6], 2, "looks")):
            self.assertIs(is_claim(thing), False, thing)
        self.assertIs(is_claim(("within", 3, ("all", ()), ("all", ()))), True)
        self.assertIs(is_claim(("run", LONE, RUN + ((("client", 0), ONE, ONE, ("start",)),))), True)

    def test_unfit_ahead_of_all(self):
        for claim in (None, (), ("lines",), ("right", SURE, 0, "looks"), 5):
            for call, rest in ((is_so, ()), (paper, ()), (is_paper_for, (None,)), (is_paper_against, (None,)), (follows_from, ((),))):
                self.assertIn("Unfit", outcome(call, claim, *rest))
            self.assertIn("Unfit", outcome(follows_from, SO[0], (SO[0], claim)))
            self.assertIn("Unfit", outcome(first_gap, ((claim, ("paper", ())),)))
            self.assertIn("Unfit", outcome(cut_to, ((claim, ("paper", ())),), (5,)))


class Papers(unittest.TestCase):
    def check(self, claim):
        """A CLAIM that is so has PAPERS for it alone, any other against it alone."""
        told = paper(claim)
        self.assertIs(is_paper_for(claim, told), is_so(claim))
        self.assertIs(is_paper_against(claim, told), not is_so(claim))
        for thing in ((), None, 0, 1, True, "order", told if not isinstance(told, tuple) else listed(told), ((), ()), (0, "clock")):
            if thing != told:
                self.assertFalse(is_paper_for(claim, thing) and not is_so(claim))
                self.assertFalse(is_paper_against(claim, thing) and is_so(claim))
        return told

    def test_all(self):
        for claim in SO + NOT_SO:
            self.check(claim)

    def inch(self, claim, right, *wrong):
        judge = is_paper_for if is_so(claim) else is_paper_against
        other = is_paper_against if is_so(claim) else is_paper_for
        self.assertIs(judge(claim, right), True, right)
        for thing in (right,) + wrong:
            self.assertIs(other(claim, thing), False, thing)
        for thing in wrong:
            self.assertIs(judge(claim, thing), False, thing)

    def test_lines_and_sheets(self):
        self.inch(("lines", OPEN), (at(2),), ((19, 10),), (at(4),), (), (at(2), at(2)), [at(2)], (2,))
        self.inch(("lines", SHUT), (ONE, ONE), (ONE, at(2)), (at(0), at(0)), (ONE,), [ONE, ONE])
        some = ((at(0), at(3)), (at(4), at(7)), (at(6), at(9)))
        self.inch(("sheet", DESK), some, bent(some, (1, 1), (69, 10)), bent(some, (2, 0), at(7)), some[:2], list(some), ())
        told = paper(("sheet", LATE))
        place = [weight != at(0) for weight in told].index(True)
        self.inch(("sheet", LATE), told, bent(told, (place,), at(0)), told[1:], listed(told), ())
        self.assertEqual(len(told), len(lines_of(LATE)))

    def test_within(self):
        gone = ("never", (ONE, (-1, 1)))
        tree = ("split", X, ("split", Y, ("so",), gone, gone), ("so",), ("so",))
        self.inch(SO[3], tree, ("so",), bent(tree, (2, 3), ("so",)), bent(tree, (2, 4), ("never", (ONE, ONE))), ((1, 2),), ())
        self.inch(NOT_SO[2], ((1, 2),), ((-1, 100),), (at(1),), at(0), (), ((1, 2), (1, 2)), [(1, 2)], (0,), ("so",))
        self.inch(NOT_SO[2], (at(0),), (at(2),))

    def test_runs(self):
        self.inch(("run", LONE, RUN), (), [], None, 0, (0, "order"))
        event = bent(RUN[-1], (2,), at(999))
        claim = ("run", LONE, RUN[:-1] + (event,))
        self.inch(claim, (len(RUN) - 1, "clock"), (len(RUN) - 1, "order"), (len(RUN) - 2, "clock"), (len(RUN) - 1,), [len(RUN) - 1, "clock"], (), None)
        self.inch(("run", LONE, RUN[1:]), first_broken(LONE, RUN[1:]), (False, "letter"), (1, "letter"))

    def test_tellings(self):
        steps = list_of(HALF)
        self.inch(("plain", HALF), steps, steps[:-1], listed(steps), (), tuple(reversed(steps)), ((("client", 0), 1)))
        knot = ((0, 4), ("grant", 0, (2, 1)), (1, 3), (1, 4), ("grant", 1, (2, 0)), (0, 3))
        self.inch(("plain", CROSSED), knot, knot[1:], knot[:2] + knot[3:4], listed(knot), (), steps, (("client", 0), 4))
        self.inch(("plain", MISFIT), (("client", 0), 1), (("client", 0), 0), (("client", 0), True), (("client", False), 1), [("client", 0), 1], ((0, 0),), ())

    def test_right_plans(self):
        told = proof(SURE, 2, "looks")
        self.inch(("right", SURE, 2, "looks"), told, told[1:], (), list(told), RUN)
        self.inch(("right", SURE, 1, "looks"), (), 5, RUN)
        self.inch(("right", NO_HOLD, 2, "looks"), (), told, [], RUN)
        run = bad_run(EAGER, 2, "looks")
        self.inch(("right", EAGER, 2, "looks"), run, run[1:], run[:-1], list(run), (), told)
        self.inch(("right", EAGER, 2, "deeds"), bad_run(EAGER, 2, "deeds"), run)
        # Bad, but not by one lock alone.
        plan = changed(EAGER, ("asks", 0), False)
        self.inch(("right", plan, 1, "looks"), bad_run(plan, 1, "looks"), run)

    def test_rosters_and_kinds(self):
        self.inch(("roster", TWO_OF[:2], (0, 1)), 0, 1, 2, False, (0,), None, ())
        run = paper(("roster", TWO_OF, (0, 1, 2)))
        self.inch(("roster", TWO_OF, (0, 1, 2)), run, (run[0], run[1][:-1]), (run[0], run[1][1:]), 0, listed(run), (), run[:1])
        with self.assertRaises(CanNot):
            order_of(ticket_rows(TWO_OF, (0, 1, 2), run))
        wrong = paper(("kinds", (SHARED, False, ())))
        self.inch(("kinds", (SHARED, False, ())), wrong, wrong[:-1], wrong[1:], listed(wrong), ())
        self.inch(("kinds", (SHARED, True, ())), (), wrong, [], None)

    def test_changes(self):
        run = paper(("smooth", CHANGE))
        self.inch(("smooth", CHANGE), run, run[:-1], run[1:], list(run), ())
        self.inch(("smooth", CHANGE[:3] + (((201, 100),),)), (), run, None, [])
        # A late look, but not of a RUN of this CHANGE.
        self.assertIs(is_so(("smooth", CHANGE[:3] + ((at(2),),))), False)
        self.assertIs(is_paper_against(("smooth", CHANGE[:3] + ((at(2),),)), run), False)

    def test_drawn(self):
        draw = random.Random(250)
        found = {}
        for k in range(60):
            plan = a_plan(draw)
            run = a_run(draw, plan, 30)
            cut = draw.randrange(len(run))
            told = telling(plan, run)
            steps = a_list(draw, 20)
            claims = [("right", plan, 1 + k % 3, ("looks", "deeds")[k % 2]), ("run", plan, run), ("run", plan, run[:cut] + run[cut + 1:]),
                      ("plain", told), ("plain", told_by(steps)), ("smooth", a_change(draw, k % 3)),
                      ("roster", plan[0], tuple(sorted(draw.sample(range(len(plan[1])), draw.randint(0, len(plan[1])))))),
                      ("within", 1, ("below", (a_fraction(draw, -2, 2), ONE)), ("below", (a_fraction(draw, -2, 2), ONE))),
                      ("sheet", sheet(plan, (plan[0][0], plan[0][0], plan[0][0][0], "release"), "look"))]
            for claim in claims:
                self.assertTrue(is_claim(claim))
                self.check(claim)
                found[(claim[0], is_so(claim))] = found.get((claim[0], is_so(claim)), 0) + 1
        for word in ("right", "run", "roster", "within", "smooth"):
            self.assertGreater(min(found[word, True], found[word, False]), 4, word)

    def test_what_is_so(self):
        draw = random.Random(251)
        for _ in range(30):
            plan = a_plan(draw)
            self.assertIs(is_so(("right", plan, 2, "looks")), is_right(plan, 2, "looks"))
            run = a_run(draw, plan, 20)
            self.assertIs(is_so(("run", plan, run[1:])), first_broken(plan, run[1:]) is None)
        self.assertIsNotNone(misfit(MISFIT))
        self.assertTrue(holds(("below", Y), (at(0),)))


class Following(unittest.TestCase):
    def check(self, claim, others, told):
        self.assertIs(follows_from(claim, others), told, (claim, others))
        if told and all(is_so(other) for other in others):
            self.assertTrue(is_so(claim))

    def test_itself_and_none(self):
        for claim in SO + NOT_SO:
            self.check(claim, (claim,), True)
            self.check(claim, (), False)
            self.assertTrue(follows_from(claim, SO + NOT_SO))
            self.assertFalse(follows_from(claim, tuple(other for other in SO + NOT_SO if other[0] != claim[0])))

    def test_without_a_rule(self):
        for claim, other in ((("run", LONE, ()), ("run", LONE, RUN)), (("run", LONE, RUN[:2]), ("run", LONE, RUN)), (("plain", ()), ("plain", HALF)),
                             (("sheet", DESK), ("sheet", LATE)), (("sheet", LATE), ("sheet", DESK))):
            self.check(claim, (other,), False)

    def test_lines(self):
        for lines, told in ((OPEN[:1], True), (OPEN[1:] + OPEN[:1], True), ((), True), (((LINE[0], at(4)),), True), (((LINE[0], (29, 10)),), False),
                            (((LINE[0], at(3)), (LINE[0], at(5))), True), (OPEN + (((), at(0)),), False), (((((1, ONE),), at(9)),), False)):
            self.check(("lines", lines), (("lines", OPEN),), told)
        self.check(("lines", OPEN), (("lines", OPEN[:1]), ("lines", OPEN[1:])), False)

    def test_within(self):
        a, b, c = ("below", X), ("below", Y), ("below", ((-2, 1), ONE))
        self.check(("within", 1, a, c), (("within", 1, a, b), ("within", 1, b, c)), True)
        self.check(("within", 1, a, c), (("within", 1, b, c), ("sheet", DESK), ("within", 1, a, b)), True)
        self.check(("within", 1, a, c), (("within", 1, a, b),), False)
        self.check(("within", 1, a, a), (("within", 1, a, b), ("within", 1, b, a)), True)
        self.check(("within", 1, a, a), (("within", 1, b, b),), False)
        self.check(("within", 1, c, a), (("within", 1, a, b), ("within", 1, b, c)), False)
        zero, all_of, any_of = ("within", 0), ("all", ()), ("any", ())
        self.check(zero + (any_of, any_of), (zero + (any_of, all_of), ("within", 1, all_of, any_of)), False)
        self.check(zero + (any_of, any_of), (zero + (any_of, all_of), zero + (all_of, any_of)), True)
        # One rule is one step.
        d = ("below", ((-3, 1), ONE))
        self.check(("within", 1, a, d), (("within", 1, a, b), ("within", 1, b, c), ("within", 1, c, d)), False)

    def test_right(self):
        for locks, language, other, told_language, told in (
                (2, "looks", 7, "looks", True), (2, "looks", 1, "deeds", True), (5, "looks", 2, "deeds", True), (2, "deeds", 9, "deeds", True),
                (2, "deeds", 2, "looks", False), (1, "looks", 1, "deeds", True), (1, "deeds", 1, "looks", True), (1, "looks", 2, "looks", False),
                (1, "looks", 2, "deeds", False), (2, "deeds", 1, "looks", False), (3, "looks", 1, "looks", True)):
            self.check(("right", SURE, other, told_language), (("right", SURE, locks, language),), told)
        for name, value, told in ((("most", "ask"), (3, 2), True), (("most", "ask"), at(3), False), (("least", "grant"), (3, 2), True),
                                  (("slow", "client"), (1, 2), False), (("stop",), None, False), (("length", 0), at(9), False), (("stop",), at(0), True),
                                  (("asks", 0), False, False), (("most", "back"), at(9), True)):
            other = changed(SURE, name, value)
            self.check(("right", other, 2, "looks"), (("right", SURE, 2, "looks"),), told)
            self.assertIs(same_but_times(other, SURE) and covers(other, SURE), told)
            self.check(("right", other, 3, "looks"), (("right", SURE, 2, "looks"),), other == SURE)

    def test_rosters_kinds_changes(self):
        for roster, kept, told in ((TWO_OF[:1], (0, 1), True), (TWO_OF, (0, 1), False), (TWO_OF[:2], (0, 1, 5), True), (TWO_OF[:2], (0,), False),
                                   (TWO_OF[1:2], (0, 1), True), (TWO_OF[:1], (0, 1, 2), False), (((0,),), (0, 1), False)):
            self.check(("roster", roster, kept), (("roster", TWO_OF[:2], (0, 1)),), told)
        # One rule is one step, here too.
        for rules, told in (((INTENT, True, ((0, 1), (0, 2))), False), ((INTENT, False, ((0, 1), (0, 2))), True), ((INTENT, True, ((0, 1),)), True),
                            ((INTENT, False, ()), False), ((SHARED, True, ((0, 1),)), False)):
            self.check(("kinds", rules), (("kinds", (INTENT, False, ((0, 1),))),), told)
        self.check(("kinds", (SHARED, False, ())), (("kinds", (SHARED, True, ())),), False)
        for waits, told in (((at(2),), True), ((at(3),), True), (((19, 10),), False)):
            self.check(("smooth", CHANGE[:3] + (waits,)), (("smooth", CHANGE[:3] + ((at(2),),)),), told)
        self.check(("smooth", (SURE, LONG) + CHANGE[2:]), (("smooth", CHANGE),), False)
        three = (SURE, SURE, (("stop",), ("start",), ("keepers",)))
        for waits, told in (((1, 2), True), ((2, 2), True), ((3, 9), True), ((0, 9), False), ((9, 1), False), ((0, 0), False)):
            self.check(("smooth", three + (tuple(at(wait) for wait in waits),)), (("smooth", three + ((at(1), at(2)),)),), told)


class Books(unittest.TestCase):
    BOOK = ((("run", LONE, ()), ("paper", ())), (("right", SURE, 2, "looks"), ("paper", proof(SURE, 2, "looks"))),
            (("right", SURE, 7, "deeds"), ("of", (1,))), (("roster", TWO_OF[:2], (0, 1)), ("paper", 0)), (("roster", TWO_OF[:1], (0, 1)), ("of", (0, 3))),
            (("right", SURE, 7, "deeds"), ("of", (2, 4))))

    def test_so_and_not(self):
        for many in range(7):
            self.assertIs(is_book(self.BOOK[:many]), True)
        for item in ((SO[0],), SO[0], (SO[0], ("paper",)), (SO[0], ("paper", 1, 2)), (SO[0], ("of", (6,))), (SO[0], ("of", (1, 0))), (SO[0], ("of", (0, 0))),
                     (SO[0], ("of", (True,))), (SO[0], ("of", [0])), (SO[0], ("of", 0)), (SO[0], ("off", (0,))), (SO[0], ["paper", ()]), (None, ("paper", ())),
                     [SO[0], ("paper", ())], (SO[0], ("of", (-1,))), (("lines",), ("paper", ())), 5):
            self.assertIs(is_book(self.BOOK + (item,)), False, item)
        self.assertIs(is_book(self.BOOK + ((SO[0], ("of", ())),)), True)
        self.assertIs(is_book(self.BOOK + ((SO[0], ("paper", [None, "x", [True]])),)), True)
        self.assertIs(is_book(list(self.BOOK)), False)

    def test_gaps(self):
        self.assertIsNone(first_gap(self.BOOK))
        self.assertIsNone(first_gap(()))
        for place, ground in ((0, ("paper", (1,))), (0, ("of", ())), (1, ("of", (0,))), (1, ("paper", ())), (2, ("of", (0,))), (3, ("paper", 1)),
                              (4, ("of", (0, 1, 2))), (5, ("of", (3, 4)))):
            self.assertEqual(first_gap(bent(self.BOOK, (place, 1), ground)), place)
        twice = bent(bent(self.BOOK, (3, 1), ("paper", 1)), (5, 1), ("of", ()))
        self.assertEqual(first_gap(twice), 3)
        # Lists count as tuples in a PAPER.
        self.assertIsNone(first_gap(bent(self.BOOK, (1, 1), ("paper", listed(proof(SURE, 2, "looks"))))))
        self.assertEqual(first_gap(((NOT_SO[0], ("paper", paper(NOT_SO[0]))),)), 0)

    def test_cuts(self):
        book = self.BOOK
        self.assertEqual(cut_to(book, ()), ())
        self.assertEqual(cut_to(book, (0,)), book[:1])
        self.assertEqual(cut_to(book, (2,)), (book[1], (book[2][0], ("of", (0,)))))
        self.assertEqual(cut_to(book, (4,)), (book[0], book[3], (book[4][0], ("of", (0, 1)))))
        self.assertEqual(cut_to(book, (5,)), book)
        self.assertEqual(cut_to(book, (2, 3)), (book[1], (book[2][0], ("of", (0,))), book[3]))
        for places in ((), (0,), (2,), (4,), (5,), (1, 3, 4), (2, 3), (0, 1, 2, 3, 4, 5)):
            part = cut_to(book, places)
            self.assertTrue(is_book(part))
            self.assertIsNone(first_gap(part))
            self.assertLessEqual({book[place][0] for place in places}, {claim for claim, _ in part})
        for places, wrong in (((6,), 6), ((-1, 3), -1), ((2, 7, 9), 7)):
            self.assertEqual(outcome(cut_to, book, places), repr(("NoPlace", {"place": wrong})))

    def test_a_book_stands_only_on_what_is_so(self):
        draw = random.Random(252)
        found = 0
        for _ in range(40):
            claims = [draw.choice(SO + SO + NOT_SO) for _ in range(6)]
            book = []
            for place, claim in enumerate(claims):
                ground = ("paper", paper(claim)) if draw.random() < 0.8 else ("of", tuple(sorted(draw.sample(range(place), draw.randint(0, place)))))
                book.append((claim, ground))
            book = tuple(book)
            gap = first_gap(book)
            for claim, _ in book[:gap]:
                self.assertTrue(is_so(claim))
            found += gap is None or gap > 1
        self.assertGreater(found, 5)


class Calls(unittest.TestCase):
    def test_rules_for_every_function(self):
        for claim in SO + NOT_SO:
            told = paper(claim)
            check_call(self, is_claim, ("thing",), (claim,), things=(0,))
            check_call(self, is_so, ("claim",), (claim,))
            check_call(self, paper, ("claim",), (claim,))
            check_call(self, is_paper_for, ("claim", "thing"), (claim, told), things=(1,))
            check_call(self, is_paper_against, ("claim", "thing"), (claim, told), things=(1,))
            check_call(self, follows_from, ("claim", "claims"), (claim, SO))
        check_call(self, is_book, ("thing",), (Books.BOOK,), things=(0,))
        check_call(self, first_gap, ("book",), (Books.BOOK,))
        check_call(self, first_gap, ("book",), (Books.BOOK[1:],))
        for places in ((2, 4), (9,)):
            check_call(self, cut_to, ("book", "places"), (Books.BOOK, places))


if __name__ == "__main__":
    unittest.main()
