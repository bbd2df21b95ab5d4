"""The examples of the document, section by section, as they are written there."""

import unittest

from tests.helping import all_names, run_example

EXAMPLES = {
    4: """
>>> fraction(6, -4), over((1, 2), (3, 1)), less((-1, 2), (0, 1)), greatest(((1, 3), (1, 2))), sum_of(())
((-3, 2), (1, 6), True, (1, 2), (0, 1))
>>> over((1, 2), (0, 1))
raises CanNot()
""",
    5: """
>>> one = (((0, (1, 1)), (1, (-1, 1))), (-2, 1))
>>> two, three = (((1, (1, 1)),), (5, 1)), (((0, (-1, 1)),), (-4, 1))
>>> is_answer((one, two), ((3, 1), (5, 1))), is_sum((one, two, three), ((1, 1), (1, 1), (1, 1))), extremes((one, two, three))
(True, True, (((1, 1), (1, 1), (1, 1)),))
>>> put_together((one, two), ((1, 2), (1, 1))), greatest_of((one, two), 0)
((((0, (1, 2)), (1, (1, 2))), (4, 1)), (3, 1))
>>> sum_against((one, two))
raises CanNot()
""",
    6: """
>>> web = (3, ((0, 1, (5, 1)), (1, 0, (-2, 1)), (1, 2, (3, 1)), (2, 1, (-1, 1))))
>>> is_schedule(web, ((0, 1), (2, 1), (9, 2))), farthest(web, 0, 2), chain(web, 2, 0), farthest(web, 2, 0)
(True, (8, 1), (3, 1), (-3, 1))
>>> stretched(web, 2, (100, 1)), drawn(web, 0, (6, 1)), farthest((2, ()), 0, 1)
(((-8, 1), (-3, 1), (0, 1)), ((0, 1), (5, 1), (6, 1)), None)
>>> shut = tied(web, ((0, 2, (2, 1)),))
>>> is_ring(shut, (4, 3, 1)), length(shut, (4, 3, 1)), is_ring(web, ())
(True, (-1, 1), False)
>>> schedule(shut)
raises CanNot()
>>> farthest(web, 3, 0)
raises NoPlace(place=3)
""",
    7: """
>>> desk = ((((1, 1), (2, 1)),), (0, 0, 0), (), ((0, 1, (4, 1), None), (0, 2, (0, 1), (6, 1))), ())
>>> overlapping(desk), is_play(desk, (((0, 1), (3, 1)), ((4, 1), (7, 1)), ((6, 1), (9, 1))))
(((0, 1),), True)
>>> greatest_between(desk, 1, 2), farthest(web_of(desk), 1, 2)
((2, 1), (4, 1))
>>> late = with_ties(desk, ((2, 1, (-3, 1)),))
>>> is_schedule(web_of(late), ((0, 1), (2, 1), (6, 1)))
True
>>> play(late)
raises CanNot()
""",
    8: """
>>> one, two, slope = (1, 1), (2, 1), ((1, 1), (1, 1))
>>> lone = (((0,),), (((8, 1), "all", (0, 1)),), (slope, slope), ((one, two), (one, two), (one, (3, 1)), (one, None)), ((10, 1), "sent", (0, 1), "once", False), ((True, True),), ())
>>> is_plan(lone), setting(lone, ("length", 0)), setting(lone, ("most", "back")), setting(lone, ("asks", 0)), len(settings(lone)), len(times_of(lone))
(True, (8, 1), None, True, 24, 11)
>>> longest_belief(lone), shortest_keep(lone, 0), can_hold(lone), can_hold(changed(lone, ("term",), (3, 2)))
((10, 1), (8, 1), True, False)
>>> shortest_keep(changed(lone, ("fast", "keeper"), (4, 3)), 0), setting(scaled(lone, (1, 2)), ("most", "deed"))
((6, 1), (3, 2))
>>> later = changed(lone, ("most", "ask"), None)
>>> covers(lone, later), covers(later, lone), same_but_times(lone, changed(lone, ("term",), (9, 1)))
(True, False, False)
>>> changed(lone, ("least", "ask"), (3, 1))
raises Unfit()
>>> setting(lone, ("length", 1))
raises NoPlace(place=('length', 1))
""",
    9: """
>>> a, b, new = (1, 0), (1, 1), (None, None, None, None)
>>> held = asked(lone, 0, new, a, (3, 1))
>>> held, asked(lone, 0, held[1], b, (10, 1)), asked(lone, 0, held[1], b, (11, 1))
((True, ((1, 0), (1, 0), (11, 1), None)), (False, ((1, 0), (1, 0), (11, 1), None)), (True, ((1, 1), (1, 1), (19, 1), None)))
>>> free_from(lone, 0, held[1], (4, 1)), free_from(lone, 0, let_go(lone, 0, held[1], a), (4, 1)), kept_for(lone, 0)
((11, 1), (4, 1), (8, 1))
>>> asked(lone, 0, held[1], a, (12, 1)), asked(lone, 0, let_go(lone, 0, held[1], a), a, (12, 1))[0]
((True, ((1, 0), (1, 0), (20, 1), None)), False)
>>> weak = changed(changed(lone, ("record", 0), "number"), ("grace", 0), (5, 1))
>>> fallen(weak, 0, held[1], (6, 1)), kept_for(weak, 0)
(((1, 0), None, None, (11, 1)), (5, 1))
>>> Keeper(lone, 0).take((0, 1), ("ask", 0, a, 1))
[('grant', 0, (1, 0), 1)]
>>> kept_for(lone, 1)
raises NoPlace(place=1)
""",
    10: """
>>> some = Library(lone, 7)
>>> some.act((0, 1), ("ask", 2))
(((("keeper", 0), ("ask", 2, (1, 7), 1)),), (("ask", 2),))
>>> some.take((3, 1), ("keeper", 0), ("grant", 2, (1, 7), 1)), some.last(2)
(((), (("told", 2, (1, 7)),)), (10, 1))
>>> some.act((10, 1), ("deed", 2, 0, ("put", 5))), some.act((10, 1), ("send",))
(((), (("deed", 2, 0, (1, 7), 2, ("put", 5)),)), (((("store", 2, 0), ("deed", 2, 0, (1, 7), 2, ("put", 5))),), ()))
>>> some.act((11, 1), ("look", 2)), some.stands(2)
((((("keeper", 0), ("release", 2, (1, 7))),), (("look", 2, False),)), False)
>>> some.act((11, 1), ("again", 2))
raises CanNot()
""",
    11: """
>>> box = Store(lone, 2, 0)
>>> box.take(("deed", 2, 0, (3, 7), 2, ("put", 5)))
(("done", 2, 0, 2, 0), ((3, 7), 2, ("put", 5), 0))
>>> box.take(("deed", 2, 0, (3, 7), 2, ("put", 5))), box.take(("deed", 2, 0, (2, 9), 1, ("get",)))
((None, None), (("stale", 2, 0, 1, (3, 7)), None))
>>> box.take(("seal", 2, 0, (4, 1))), box.take(("deed", 2, 0, (3, 7), 3, ("get",)))
((("sealed", 2, 0, (4, 1)), None), (("stale", 2, 0, 3, (4, 1)), None))
>>> box.value(), box.greatest()
(5, (4, 1))
""",
    12: """
>>> me, keep, shop = ("client", 0), ("keeper", 0), ("store", 0, 0)
>>> run = ((me, (0, 1), (5, 1), ("ask", 0)), (keep, (1, 1), (0, 1), ("take", 0)), (me, (2, 1), (7, 1), ("take", 1)), (me, (3, 1), (8, 1), ("deed", 0, 0, ("put", 4))), (me, (3, 1), (8, 1), ("send",)), (shop, (4, 1), None, ("take", 4)))
>>> first_broken(lone, run), first_broken(lone, run[1:]), sent(lone, run)[1]
(None, (0, 'letter'), ((('client', 0), ('grant', 0, (1, 0), 1)),))
>>> telling(lone, run)
((('client', 0), (('ask', 0), ('told', 0, (1, 0)), ('deed', 0, 0, (1, 0), 2, ('put', 4)))), (('store', 0, 0), (((1, 0), 2, ('put', 4), 0),)))
>>> first_broken(lone, run + ((me, (9, 2), (21, 2), ("look", 0)),)), first_broken(lone, run[:5] + ((shop, (7, 1), None, ("take", 4)),))
((6, 'clock'), (5, 'leg'))
>>> Machine(lone).play((me, (0, 1), (5, 1), ("send",)))
raises Broken(word='act')
""",
    13: """
>>> two_of = ((0, 1), (0, 2), (1, 2))
>>> meets(two_of, (0, 1, 2)), not_meeting(two_of, (0, 1)), fewest_apart(two_of, (0, 1, 2))
(True, ((0, 2), (1, 2)), ((0, 1), (0, 2), (1, 2)))
>>> better(((0, 1), (0, 2)), (0, 1, 2), 3), cover(3, ((0,), (1,), (2,)), ((0,),))
((0,), ((1,), (2,), (0,)))
>>> grants = (("grant", 2, 1), ("grant", 0, 1), ("grant", 0, 0), ("grant", 1, 0), ("grant", 1, 2), ("grant", 2, 2))
>>> deeds = (("deed", 0, 0), ("deed", 1, 0), ("deed", 1, 1), ("deed", 2, 1), ("deed", 2, 2), ("deed", 0, 2))
>>> ticket_rows(two_of, (0, 1, 2), ((0, 1, 2), grants + deeds))
((0, 1), (1, 2), (2, 0))
>>> order_of(((0, 1), (1, 2), (2, 0)))
raises CanNot()
""",
    14: """
>>> way = ((0,), (0,), 0, "lapse")
>>> hows(lone, 0), overlap(lone, way, "look"), overlap(lone, way, "store"), overlap(lone, ((0,), (0,), 0, "release"), "look")
(('lapse', 'release'), (0, 1), (2, 1), (-2, 1))
>>> sure = changed(lone, ("length", 0), (17, 2))
>>> widest(sure, (0,), (0,), "look"), open_pairs(sure, "look"), open_pairs(sure, "store")
((-1, 2), (), (((0,), (0,)),))
>>> way_ends(lone, way, "look"), greatest_between(sheet(sure, way, "look"), 5, 3)
((5, 3), (-1, 2))
""",
    15: """
>>> pair = (lone, ((0, ("term",), (1, 1)), (1, ("length", 0), (1, 1))))
>>> overlap_form(2, pair, way, "look")
((0, 1), (1, 1), (-1, 1))
>>> where = right_where(2, pair, 2, "looks")
>>> stretches(where, ((0, 1), (0, 1)), ((1, 1), (0, 1)))
(((-10, 1), True, (0, 1), False),)
>>> mend(2, where, ((3, 1), (0, 1)), (((1, 1), (1, 1)), ((2, 1), (2, 1))))[:2]
((3, 1), ((0, 1), (0, 1)))
>>> x, y = ((0, 1), (1, 1)), ((-1, 1), (1, 1))
>>> gone = ("never", ((1, 1), (-1, 1)))
>>> is_tree(1, ("below", x), ("below", y), ("split", x, ("split", y, ("so",), gone, gone), ("so",), ("so",)))
True
>>> stretches(web_where(1, 2, ((0, 1, x), (1, 0, y))), ((0, 1),), ((-1, 1),))
((None, False, (-1, 2), True),)
""",
    16: """
>>> shared, intent = ((0,), ()), ((0, 1, 2), (0, 1), (0, 2))
>>> needed(shared), needed(intent)
((), ((0, 1), (0, 2)))
>>> kinds_right((shared, True, ())), kinds_right((shared, False, ())), kinds_right((intent, True, ((0, 1),)))
(True, False, False)
>>> late = (("tell", 0), ("tell", 1), ("tell", 0), ("send", 0, 0), ("send", 2, 0), ("take", 1), ("take", 0))
>>> kind_rows((shared, False, ()), late), kind_rows((shared, True, ()), late)
(((True, True), ((1, 0),)), ((False, True), ((1,),)))
""",
    17: """
>>> left = (("ask", 0), ("told", 0, (1, 0)), ("ask", 1), ("told", 1, (2, 0)), ("look", 0, True))
>>> right = (("ask", 1), ("told", 1, (1, 1)), ("ask", 0), ("told", 0, (2, 1)), ("look", 1, True))
>>> crossed, half = ((("client", 0), left), (("client", 1), right)), ((("client", 0), left), (("client", 1), right[:4]))
>>> misfit(crossed), is_knot(crossed, ((0, 4), ("grant", 0, (2, 1)), (1, 3), (1, 4), ("grant", 1, (2, 0)), (0, 3)))
(None, True)
>>> len(knot(crossed)), thread(half, (0, 4), (1, 3)), is_ahead(half, (1, 1), ("grant", 0, (2, 1)))
(6, ((0, 4), ("grant", 0, (2, 1)), (1, 3)), False)
>>> barred(((0, left[0]), ("grant", 0, (1, 0)), ("end", 0), (0, left[1]), (0, ("look", 0, True))))
4
>>> list_of(crossed)
raises CanNot()
>>> list_with(half, (1, 3), (0, 4))
raises CanNot()
""",
    18: """
>>> one_row = (("ask", 0), ("told", 0, (1, 0)), ("deed", 0, 0, (1, 0), 2, ("put", 4)), ("look", 0, False))
>>> next_row = (("ask", 0), ("told", 0, (2, 1)), ("deed", 0, 0, (2, 1), 5, ("put", 5)), ("done", 0, 0, 5, 4))
>>> shop_row = (((1, 0), 2, ("put", 4), 0), ((2, 1), 5, ("put", 5), 4))
>>> rows = ((("client", 0), one_row), (("client", 1), next_row), (("store", 0, 0), shop_row))
>>> by_number(rows)[:6]
((0, ("ask", 0)), (1, ("ask", 0)), ("grant", 0, (1, 0)), (0, ("told", 0, (1, 0))), (0, ("deed", 0, 0, (1, 0), 2, ("put", 4)), 0), ("end", 0))
>>> by_number(rows)[6:]
((0, ("look", 0, False)), ("grant", 0, (2, 1)), (1, ("told", 0, (2, 1))), (1, ("deed", 0, 0, (2, 1), 5, ("put", 5)), 4), (1, ("done", 0, 0, 5, 4)))
>>> told_by(by_number(rows)) == rows, goes_down(rows), is_quiet(by_number(rows)), ranked(rows)[2]
(True, None, False, (("store", 0, 0), (((1, 0), 1, ("put", 4), 0), ((2, 1), 1, ("put", 5), 4))))
""",
    19: """
>>> eager = changed(lone, ("term",), (20, 1))
>>> closed, plain = changed(eager, ("sealed",), True), changed(eager, ("asks", 0), False)
>>> is_right(eager, 1, "looks"), reasons(eager, 2, "looks"), reasons(closed, 2, "deeds"), reasons(closed, 2, "looks")
(True, ('look',), (), ('look',))
>>> reasons(plain, 1, "deeds"), reasons(plain, 3, "deeds"), must_ask(plain), must_ask(eager), is_right(sure, 5, "looks")
(('store',), ('look', 'store'), (0,), (0,), True)
>>> len(proof(sure, 2, "looks")), is_proof(sure, 2, "looks", proof(sure, 2, "looks")), proof(eager, 1, "looks")
(2, True, ())
>>> crossing(((("client", 1), (0, 1), (0, 1), ("ask", 0)), (("keeper", 0), (1, 1), (1, 1), ("take", 0))))[2:]
((('keeper', 0), (1, 1), (1, 1), ('take', 0)), (('keeper', 0), (1, 1), (1, 1), ('take', 1)))
>>> bad_run(sure, 2, "looks")
raises CanNot()
""",
    20: """
>>> first = ("take", 0, ("get", 0, 0, ((0, ("put", 0, 0, 1, ("free", 0, ()), ())),), ("free", 0, ()), ()))
>>> second = ("take", 0, ("get", 0, 0, ((0, ("put", 0, 0, 2, ("free", 0, ()), ())),), ("free", 0, ()), ()))
>>> ends((first, second), False), ends((first, second), True)
(((1,), (2,)), ((0,), (1,), (2,)))
>>> cast = (("take", 0, ("take", 1, ("look", 0, (), ()))), ("take", 1, ("take", 0, ("look", 1, (), ()))))
>>> end_of(cast, crossed), goes(cast[0], left), goes(cast[1], left), ends(cast, False), program_of(left) == cast[0]
((), True, False, (), True)
>>> list_to((first, second), True, (3,))
raises CanNot()
""",
    21: """
>>> free = ((1, 1), None, False)
>>> world = ((((1, 2), (1, 1)), ((1, 1), (2, 1))), (free, free, free, free), ((True, (0, 1)),), ((0, 1), (0, 1)), ((0,),))
>>> x, k, n = ("client", 5), ("keeper", 0), (1, 5)
>>> asked = ((x, (0, 1), ("ask", 0, n)), (k, (100, 1), ("hear", 0)), (k, (100, 1), ("grant", n, (150, 1), None)))
>>> view = asked + ((x, (4, 1), ("hear", 2)), (x, (6, 1), ("look",)))
>>> is_view(world, view), is_view(world, view[:3] + view[4:])
(True, False)
>>> age(world, view, 2), has(view, 4), has(view, 0), rests_on(view, 2), view_of(view, 1) == asked[:2]
((11, 1), ((0, (1, 5)),), (), (0, 1, 2), True)
>>> age(world, view, 5)
raises NoPlace(place=5)
""",
    22: """
>>> slack(world), endings(world, view, 0), surely_with(world, view), is_sure(world, view)
((1, 1), (((2, (25, 1)),),), (0,), True)
>>> first_unsure(world, view), is_cut(world, view, (2, (10, 1))), chains(world, view, 0)[0][0]
((27, 2), False, 0)
>>> late = view[:4] + ((x, (27, 2), ("look",)),)
>>> stranger = late + ((("client", 6), (0, 1), ("ask", 0, (1, 6))), (k, (150, 1), ("hear", 5)), (k, (150, 1), ("grant", (1, 6), None, None)))
>>> told = ((-27, 1), (-26, 1), (-26, 1), (-19, 1), (0, 1), (-2, 1), (-1, 1), (-1, 1))
>>> keepers_with(world, stranger, told, 4), is_worst(world, late, (stranger, told)), is_sure(world, late)
((), True, False)
>>> is_sure(world, view[:3])
raises CanNot()
""",
    23: """
>>> me, them, keep = ("client", 0), ("client", 1), ("keeper", 0)
>>> course = ((me, (0, 1), (0, 1), ("ask", 0)), (keep, (1, 1), (0, 1), ("take", 0)), (me, (2, 1), (2, 1), ("take", 1)), (them, (8, 1), (0, 1), ("ask", 0)), (keep, (9, 1), (8, 1), ("take", 3)), (me, (10, 1), (10, 1), ("look", 0)))
>>> log_of(lone, course, 0)[:4]
((("client", 0), (0, 1), ("ask", 0, (1, 0))), (("keeper", 0), (0, 1), ("hear", 0)), (("keeper", 0), (0, 1), ("grant", (1, 0), (8, 1), None)), (("client", 0), (2, 1), ("hear", 2)))
>>> log_of(lone, course, 0)[4:], log_of(lone, course, 1)
(((("client", 1), (0, 1), ("ask", 0, (1, 1))), (("keeper", 0), (8, 1), ("hear", 4)), (("keeper", 0), (8, 1), ("grant", (1, 1), (16, 1), None)), (("client", 0), (10, 1), ("look",))), ())
>>> looks(lone, course, 0), believed_by(lone, course, 0, 7), surely_at(lone, course, 0, 7), is_unsure_run(lone, 0, (course, 7))
((7,), ((0,),), (), True)
>>> shut_keepers(lone), shut_keepers(changed(lone, ("length", 0), (17, 2))), world_of(lone)[2:]
((), (0,), (((True, (0, 1)),), ((0, 1), (0, 1)), ((0,),)))
>>> unsure_run(lone, 1)
raises NoPlace(place=1)
""",
    24: """
>>> long = changed(changed(sure, ("term",), (12, 1)), ("length", 0), (11, 1))
>>> crossings((sure, long, (("keepers", "start", "stop"),), ()))
((('new', (0,)), ('new', (0,))), (('new', (0,)), ('old', (0,))))
>>> mend(1, smooth_where(long, sure, (("start", "stop"), ("keepers",))), ((0, 1),), (((1, 1), None),))[:2]
((2, 1), ((2, 1),))
>>> joint((((0,),), sure[1] * 2) + sure[2:], (((1,),), sure[1] * 2) + sure[2:])[0]
((0, 1),)
""",
    25: """
>>> best = ("roster", two_of, (0, 1, 2))
>>> is_so(best), is_so(("roster", two_of[:2], (0, 1))), is_paper_for(("roster", two_of[:2], (0, 1)), 0)
(False, True, True)
>>> calm = ("right", sure, 2, "looks")
>>> book = ((("run", lone, ()), ("paper", ())), (calm, ("paper", proof(sure, 2, "looks"))), (("right", sure, 7, "deeds"), ("of", (1,))))
>>> first_gap(book), len(cut_to(book, (2,))), cut_to(book, (2,))[1][1]
(None, 2, ('of', (0,)))
>>> first_gap(book + ((best, ("paper", 0)),))
3
""",
    26: """
>>> fraction_text((-3, 2)), fraction_in("7"), plan_text(lone).split("\\n")[1:4]
('-3/2', (7, 1), ['keeper 8 all 0', 'clocks 1 1 1 1', 'legs 1 2 1 2 1 3 1 none'])
>>> plan_text(lone).split("\\n")[4:], plan_in(plan_text(lone)) == lone
(['library 10 sent 0 once no', 'store yes yes', 'faults'], True)
>>> events_text(((("client", 0), (3, 1), (8, 1), ("deed", 0, 0, ("put", 4))), (("store", 0, 0), (4, 1), None, ("take", 1))))
'c0 3 8 deed 0 0 put 4\\ns0.0 4 none take 1'
>>> fraction_in("6/4")
raises BadText(line=1)
>>> plan_in("lots 0\\nkeeper 8 some 0")
raises BadText(line=2)
>>> plan_in(plan_text(lone) + "\\nstore yes yes")
raises BadText(line=8)
""",
    27: """
>>> replies(lone, ("set length 0 17/2", "right 2 looks", "undo", "right 2 looks", "open look", "depth"))
(('done',), ('right',), ('done',), ('wrong look',), ('0 0',), ('undo 0 redo 1',))
>>> replies(lone, ("overlap 0 0 0 lapse store", "set term 20", "set sealed yes", "right 2 deeds", "must", "set slow client 2", "set length 3 8", "sets"))
(('2',), ('done',), ('done',), ('right',), ('stores 0',), ('unfit',), ('no place',), ('unknown',))
""",
}


class Examples(unittest.TestCase):
    def test_all_in_their_order(self):
        names = all_names()
        for section in sorted(EXAMPLES):
            for code, told in steps(EXAMPLES[section]):
                with self.subTest(section=section, code=code):
                    run_example(self, names, code, told)

    def test_none_is_left_out(self):
        many = sum(len(list(steps(text))) for text in EXAMPLES.values())
        self.assertEqual(many, sum(text.count(">>> ") for text in EXAMPLES.values()))
        self.assertEqual(sorted(EXAMPLES), list(range(4, 28)))


def steps(text):
    """Pairs of what is typed and what is told, "" if nothing is."""
    for part in text.strip().split(">>> ")[1:]:
        code, _, told = part.strip().partition("\n")
        yield code, told


if __name__ == "__main__":
    unittest.main()
