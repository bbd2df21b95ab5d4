"""[26]: texts and the way back."""

import random
import unittest

from plainlock.errors import BadText, TooMany
from plainlock.plans import changed, is_plan
from plainlock.runs import is_events
from plainlock.texts import (
    events_in, events_text, fraction_in, fraction_text, log_in, log_text, plan_in, plan_text, world_in, world_text)
from plainlock.views import is_log, is_world
from tests.drawing import a_fraction, a_plan, a_run
from tests.helping import LONE, ONE, at, check_call, outcome
from tests.test_views import ASKED, N, PAIR, VIEW, WORLD, X
from tests.worlds import a_log, a_world

ME, KEEP, SHOP = ("client", 0), ("keeper", 0), ("store", 0, 0)
PLAN_TEXT = plan_text(LONE)
WORLD_TEXT = world_text(WORLD)
EVENTS = (
    (("client", 12), at(3), (-1, 2), ("deed", 2, 0, ("put", -4))), (ME, at(3), (7, 2), ("deed", 0, 0, ("get",))), (ME, at(3), at(0), ("not now", 7)),
    (ME, at(3), at(0), ("ask", 0)), (ME, at(3), at(0), ("again", 0)), (ME, at(3), at(0), ("anew", 10)), (ME, at(3), at(0), ("release", 0)),
    (ME, at(3), at(0), ("look", 0)), (ME, at(3), at(0), ("send",)), (ME, at(3), at(0), ("start",)), (ME, at(3), at(0), ("take", 99)),
    (KEEP, at(3), at(0), ("take", 0)), (KEEP, at(3), at(0), ("fall",)), (KEEP, at(3), at(0), ("switch",)), (("store", 11, 0), at(4), None, ("take", 1)),
    (SHOP, (-9, 4), None, ("fall",)))
BIG = 10 ** 999


class Fractions(unittest.TestCase):
    def test_words(self):
        for x, word in (((-3, 2), "-3/2"), (at(7), "7"), (at(0), "0"), (at(-10), "-10"), ((1, 3), "1/3"), ((100, 7), "100/7")):
            self.assertEqual(fraction_text(x), word)
            self.assertEqual(fraction_in(word), x)

    def test_bad_words(self):
        for word in ("", " ", "6/4", "4/2", "0/1", "0/2", "7/1", "-0", "00", "01", "-01", "1/02", "+1", "1/-2", "--1", "1/", "/2", "1/2/3", "1.5", "1 ", " 1",
                     "1\n", "none", "1/0", "0/0", "x", "1e3", "1_0", "\u0661", "-", "1//2", "- 1"):
            with self.assertRaises(BadText) as caught:
                fraction_in(word)
            self.assertEqual(caught.exception.line, 1)

    def test_a_thousand_figures(self):
        for x in (at(BIG), at(-BIG), at(10 * BIG - 1), (1, BIG), (BIG + 1, BIG)):
            self.assertEqual(fraction_in(fraction_text(x)), x)
        for x in (at(10 * BIG), at(-10 * BIG), (1, 10 * BIG), (10 * BIG, 7), (7, 10 * BIG)):
            with self.assertRaises(TooMany):
                fraction_text(x)
        for word in ("1" + "0" * 1000, "-1" + "0" * 1000, "1/1" + "0" * 1000, "1" * 20000):
            with self.assertRaises(BadText):
                fraction_in(word)
        self.assertEqual(len(fraction_text(at(-BIG))), 1001)

    def test_no_two_have_one_text(self):
        draw = random.Random(260)
        known = {}
        for _ in range(300):
            x = a_fraction(draw, -9, 9, 9)
            self.assertEqual(known.setdefault(fraction_text(x), x), x)
            self.assertEqual(fraction_in(fraction_text(x)), x)


class Lines:
    """What is the same for all texts of lines; read is what ends in _in, of a text alone."""

    def bad(self, read, text, line):
        with self.assertRaises(BadText) as caught:
            read(text)
        self.assertEqual(caught.exception.line, line, text)

    def check_bends(self, read, text, last_is_whole=False):
        """Bend each line; the first that is wrong is told."""
        lines = text.split("\n")
        for place, line in enumerate(lines):
            words = line.split(" ")
            bends = [line + " ", " " + line, line + " x", line.replace(" ", "  ", 1) + "  ", "x" + line, line + "\t", line.upper() + "X", "", line + "/"]
            for at_word in range(len(words)):
                bends.append(" ".join(words[:at_word] + ["x-"] + words[at_word + 1:]))
                bends.append(" ".join(words[:at_word] + ["01"] + words[at_word + 1:]))
            for bend in bends:
                self.bad(read, "\n".join(lines[:place] + [bend] + lines[place + 1:]), place + 1)
            if not last_is_whole:
                self.bad(read, "\n".join(lines[:place]), place + 1)
        self.bad(read, text + "\n", len(lines) + 1)
        self.bad(read, "\n" + text, 1)


class Plans(unittest.TestCase, Lines):
    def test_line_by_line(self):
        self.assertEqual(PLAN_TEXT, "lots 0\nkeeper 8 all 0\nclocks 1 1 1 1\nlegs 1 2 1 2 1 3 1 none\nlibrary 10 sent 0 once no\nstore yes yes\nfaults")
        plan = (((0, 2), (1,)), ((None, "number", (1, 2)), ((5, 2), "all", at(0)), (at(0), "all", at(3))), ((((1, 2), ONE), (ONE, (4, 3)))),
                ((ONE, ONE), ((1, 3), None), (at(2), at(3)), (ONE, None)), ((7, 2), "taken", None, "waits", False), ((True, False), (False, True)),
                ("bare grant", "revives"))
        self.assertTrue(is_plan(plan))
        self.assertEqual(plan_text(plan), "lots 0.2 1\nkeeper none number 1/2\nkeeper 5/2 all 0\nkeeper 0 all 3\nclocks 1/2 1 1 4/3\n"
                         "legs 1 1 1/3 none 2 3 1 none\nlibrary 7/2 taken none waits no\nstore yes no\nstore no yes\nfaults bare-grant revives")
        self.assertEqual(plan_in(plan_text(plan)), plan)
        sealed = changed(LONE, ("sealed",), True)
        self.assertEqual(plan_in(plan_text(sealed)), sealed)

    def test_drawn(self):
        draw = random.Random(261)
        known = {}
        for _ in range(150):
            plan = a_plan(draw)
            self.assertEqual(plan_in(plan_text(plan)), plan)
            self.assertEqual(known.setdefault(plan_text(plan), plan), plan)

    def test_bends(self):
        self.check_bends(plan_in, PLAN_TEXT)
        self.check_bends(plan_in, plan_text(a_plan(random.Random(262), keepers=3, stores=((True, False), (False, True)), faults=("bare grant", "forgets"))))

    def test_what_is_written_right_but_is_none(self):
        lines = PLAN_TEXT.split("\n")

        def with_line(place, *new):
            return "\n".join(lines[:place] + list(new) + lines[place + 1:])

        for text, line in (
                ("", 1), ("lots", 1), ("lots 0", 2), (with_line(0, "lots 1"), 3), (with_line(0, "lots 1.0"), 1), (with_line(0, "lots 0 0"), 1),
                (with_line(0, "lots 0.0"), 1), (with_line(0, "lots 1 0"), 1), (with_line(0, "lots 0."), 1), (with_line(0, "lots -1"), 1),
                (with_line(0, "lots " + "9" * 1000), 3), (with_line(0, "lots " + "9" * 1001), 1), (with_line(1, "keeper -1 all 0"), 2),
                (with_line(1, "keeper 8 all -1"), 2), (with_line(1, "keeper 8 all none"), 2), (with_line(1), 2), (with_line(2, "clocks 2 2 1 1"), 3),
                (with_line(2, "clocks 1 1 1 1/2"), 3), (with_line(2, "clocks 0 1 1 1"), 3), (with_line(2, "clocks none 1 1 1"), 3),
                (with_line(3, "legs 1 2 1 2 1 3 0 none"), 4), (with_line(3, "legs 2 1 1 2 1 3 1 none"), 4), (with_line(3, "legs none 1 1 2 1 3 1 none"), 4),
                (with_line(4, "library -1 sent 0 once no"), 5), (with_line(4, "library none sent 0 once no"), 5), (with_line(4, "library 1 once 0 sent no"), 5),
                (with_line(5), 6), (with_line(5, "store yes 1"), 6), (with_line(6, "faults revives forgets"), 7), (with_line(6, "faults forgets forgets"), 7),
                (with_line(6, "faults bare grant"), 7), (with_line(6, "faults", "faults"), 8), (with_line(6, "faults", ""), 8), (with_line(6), 7),
                (PLAN_TEXT.replace("once no", "once yes").replace("faults", "faults revives"), 7), (PLAN_TEXT.replace("\n", "\n\n"), 2),
                (PLAN_TEXT + "\nstore yes yes", 8), (PLAN_TEXT.replace("\n", "\r\n"), 1), (with_line(2, "keeper 1 all 0", "legs 1 2 1 2 1 3 1 none"), 4)):
            self.bad(plan_in, text, line)
        self.assertEqual(len(plan_in(with_line(1, *["keeper 8 all 0"] * 3))[1]), 3)

    def test_too_many(self):
        for name, value in ((("term",), at(10 * BIG)), (("grace", 0), (1, 10 * BIG)), (("most", "back"), at(10 * BIG)), (("slow", "keeper"), (1, 10 * BIG))):
            with self.assertRaises(TooMany):
                plan_text(changed(LONE, name, value))
            plan = changed(LONE, name, (value[0] // 10 or 1, value[1] // 10 or 1))
            self.assertEqual(plan_in(plan_text(plan)), plan)


class Events(unittest.TestCase, Lines):
    def test_line_by_line(self):
        self.assertTrue(is_events(LONE, EVENTS))
        self.assertEqual(events_text(EVENTS), "c12 3 -1/2 deed 2 0 put -4\nc0 3 7/2 deed 0 0 get\nc0 3 0 not-now 7\nc0 3 0 ask 0\nc0 3 0 again 0\nc0 3 0 anew 10\n"
                         "c0 3 0 release 0\nc0 3 0 look 0\nc0 3 0 send\nc0 3 0 start\nc0 3 0 take 99\nk0 3 0 take 0\nk0 3 0 fall\nk0 3 0 switch\n"
                         "s11.0 4 none take 1\ns0.0 -9/4 none fall")
        self.assertEqual(events_in(LONE, events_text(EVENTS)), EVENTS)
        self.assertEqual((events_text(()), events_in(LONE, "")), ("", ()))

    def test_drawn(self):
        draw = random.Random(263)
        for _ in range(40):
            plan = a_plan(draw)
            run = a_run(draw, plan, 60, clients=3, locks=3)
            self.assertEqual(events_in(plan, events_text(run)), run)

    def test_bends(self):
        self.check_bends(lambda text: events_in(LONE, text), events_text(EVENTS), last_is_whole=True)

    def test_what_is_written_right_but_is_none(self):
        good = "c0 3 0 ask 0"
        for line in ("k1 3 0 fall", "s0.1 3 none fall", "s0 3 none fall", "s0.0.0 3 none fall", "c 3 0 ask 0", "c-1 3 0 ask 0", "c0 3 none ask 0", "k0 3 none fall",
                     "s0.0 3 0 fall", "c0 none 0 ask 0", "c0 3 0 fall", "k0 3 0 ask 0", "k0 3 0 start", "s0.0 3 none switch", "c0 3 0 deed 0 1 get",
                     "c0 3 0 deed 0 0 get 1", "c0 3 0 deed 0 0 put", "c0 3 0 deed 0 0 put 1/2", "c0 3 0 deed 0 0 put none", "c0 3 0 deed 0 0", "c0 3 0 deed",
                     "c0 3 0 not now 0", "c0 3 0 take -1", "c0 3 0 ask -1", "c0 3 0 ask", "c0 3 0 send 0", "c0 3 0", "c0 3", "x0 3 0 ask 0", "c0 3 0 take 1/2",
                     "c00 3 0 ask 0", "c0 3 0 ask " + "1" * 1001, "", " "):
            self.bad(lambda text: events_in(LONE, text), good + "\n" + line + "\n" + good, 2)
        self.assertEqual(len(events_in(LONE, good + "\nc0 3 0 ask " + "1" * 1000)), 2)
        with self.assertRaises(TooMany):
            events_text(((ME, ONE, ONE, ("ask", 10 * BIG)),))
        with self.assertRaises(TooMany):
            events_text(((ME, ONE, ONE, ("deed", 0, 0, ("put", -10 * BIG))),))
        with self.assertRaises(TooMany):
            events_text(((("client", 10 * BIG), ONE, ONE, ("send",)),))

    def test_long_texts(self):
        events = EVENTS * 70
        text = events_text(events)
        self.assertGreater(len(text), 18000)
        self.assertEqual(events_in(LONE, text), events)


class Worlds(unittest.TestCase, Lines):
    def test_line_by_line(self):
        self.assertEqual(world_text(PAIR), "clocks 1 1 1 2\nleg 1 5 yes\nleg 2 7 yes\nleg 1 3 no\nleg 1 4 yes\nkeeper yes 1\nkeeper no 4\nflight 0 1\nlots 0 0.1")
        self.assertEqual(world_in(world_text(PAIR)), PAIR)
        self.assertIn("leg 1 none no", WORLD_TEXT)

    def test_drawn(self):
        draw = random.Random(264)
        for _ in range(100):
            world = a_world(draw)
            self.assertTrue(is_world(world))
            self.assertEqual(world_in(world_text(world)), world)

    def test_bends(self):
        self.check_bends(world_in, world_text(PAIR))
        self.check_bends(world_in, WORLD_TEXT)

    def test_what_is_written_right_but_is_none(self):
        lines = world_text(PAIR).split("\n")

        def with_line(place, *new):
            return "\n".join(lines[:place] + list(new) + lines[place + 1:])

        for text, line in (
                ("", 1), (with_line(0, "clocks 2 2 1 1"), 1), (with_line(1, "leg 0 1 no"), 2), (with_line(1, "leg 1 none yes"), 2), (with_line(1), 5),
                (with_line(1, "leg 2 1 no"), 2), (with_line(4, "leg 1 4 yes", "leg 1 4 yes"), 6), (with_line(5), 8), (with_line(5, "keeper yes -1"), 6),
                (with_line(5, "keeper yes none"), 6), ("\n".join(lines[:5] + lines[7:]), 6), (with_line(7, "flight 1 0"), 8), (with_line(7, "flight -1 0"), 8),
                (with_line(7, "flight none none"), 8), (with_line(7, "flight 0 1", "flight 0 1"), 9), (with_line(8, "lots 0.2"), 9), (with_line(8, "lots"), 9),
                (with_line(8, "lots 0.1 0"), 9), (with_line(8), 9), (world_text(PAIR) + "\nlots 0", 10)):
            self.bad(world_in, text, line)


class Logs(unittest.TestCase, Lines):
    LOG = (
        (X, at(0), ("ask", 0, N)), (X, at(0), ("tell", KEEP)), (KEEP, at(9), ("hear", 0)), (KEEP, at(9), ("grant", N, None, (1, 2))), (KEEP, at(9), ("renew", N, None)),
        (KEEP, at(9), ("call", N)), (KEEP, at(9), ("fall",)), (KEEP, at(9), ("tell", ("client", 7))), (X, (1, 2), ("look",)), (X, (1, 2), ("release", 0, N)),
        (("client", 7), (-1, 3), ("tell", X)))

    def test_line_by_line(self):
        self.assertTrue(is_log(WORLD, self.LOG))
        self.assertEqual(log_text(self.LOG), "c5 0 ask 0 1:5\nc5 0 tell k0\nk0 9 hear 0\nk0 9 grant 1:5 none 1/2\nk0 9 renew 1:5 none\nk0 9 call 1:5\nk0 9 fall\n"
                         "k0 9 tell c7\nc5 1/2 look\nc5 1/2 release 0 1:5\nc7 -1/3 tell c5")
        self.assertEqual(log_in(WORLD, log_text(self.LOG)), self.LOG)
        self.assertEqual((log_text(()), log_in(WORLD, "")), ("", ()))
        self.assertEqual(log_in(WORLD, log_text(VIEW)), VIEW)

    def test_drawn(self):
        draw = random.Random(265)
        for _ in range(60):
            world = a_world(draw)
            log, _ = a_log(draw, world, 40)
            self.assertEqual(log_in(world, log_text(log)), log)

    def test_bends(self):
        self.check_bends(lambda text: log_in(WORLD, text), log_text(self.LOG), last_is_whole=True)

    def test_what_is_written_right_but_is_none(self):
        asked = log_text(ASKED)
        for line in ("k0 99 fall", "k0 100 grant 1:5 none none", "k0 100 renew 1:5 none", "k0 100 renew 1:5 149", "k0 100 call 1:5", "c5 0 release 0 2:5",
                     "c5 0 hear 3", "c5 0 hear 0", "k1 0 fall", "c5 0 ask 1 1:5", "c5 0 ask 0 1:6", "c5 0 tell c5", "c5 0 tell s0.0", "s0.0 none fall", "c5 none look",
                     "c5 0 look 0", "c5 0 ask k0 1:5", "c5 0 ask 0 1", "c5 0 ask 0 1:5:6", "c5 0 ask 0 1:", "k0 100 grant 1:5 none", "c5 -1 look", "c5 0", "c5",
                     "c5 0 tell k00", "c5 0 hear"):
            self.bad(lambda text: log_in(WORLD, text), asked + "\n" + line + "\nc5 0 look", 4)
        with self.assertRaises(TooMany):
            log_text(((X, at(0), ("ask", 0, (10 * BIG, 5))),))
        with self.assertRaises(TooMany):
            log_text(((X, at(0), ("tell", ("client", 10 * BIG))),))


class Calls(unittest.TestCase):
    def test_rules_for_every_function(self):
        check_call(self, fraction_text, ("fraction",), ((-3, 2),))
        check_call(self, fraction_text, ("fraction",), ((10 * BIG, 1),))
        check_call(self, fraction_in, ("word",), ("-3/2",))
        check_call(self, fraction_in, ("word",), ("6/4",))
        check_call(self, plan_text, ("plan",), (LONE,))
        check_call(self, events_text, ("events",), (EVENTS,))
        check_call(self, world_text, ("world",), (WORLD,))
        check_call(self, log_text, ("log",), (VIEW,))
        for text in (PLAN_TEXT, "lots"):
            check_call(self, plan_in, ("text",), (text,))
        for text in (WORLD_TEXT, "clocks"):
            check_call(self, world_in, ("text",), (text,))
        for text in (events_text(EVENTS), "c0"):
            check_call(self, events_in, ("plan", "text"), (LONE, text))
        for text in (log_text(VIEW), "c0"):
            check_call(self, log_in, ("world", "text"), (WORLD, text))

    def test_any_text(self):
        draw = random.Random(266)
        signs = "lotskeper 0123456789.:/-\n cxyab"
        for k in range(300):
            text = "".join(draw.choice(signs) for _ in range(draw.randint(0, 60)))
            if k % 3 == 0:
                cut = draw.randrange(len(PLAN_TEXT))
                text = PLAN_TEXT[:cut] + draw.choice(signs) + PLAN_TEXT[cut + draw.randint(0, 1):]
            for call, given in ((plan_in, (text,)), (world_in, (text,)), (events_in, (LONE, text)), (log_in, (WORLD, text)), (fraction_in, (text,))):
                told = outcome(call, *given)
                if "BadText" not in told:
                    back = {plan_in: plan_text, world_in: world_text, events_in: events_text, log_in: log_text, fraction_in: fraction_text}[call]
                    self.assertEqual(back(call(*given)), text)
        for call, given in ((plan_in, ()), (world_in, ()), (events_in, (LONE,)), (log_in, (WORLD,))):
            self.assertIn("BadText", outcome(call, *given, "x" * 20000))
            self.assertIn("BadText", outcome(call, *given, "\n" * 20000))


if __name__ == "__main__":
    unittest.main()
