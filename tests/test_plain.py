"""[17]: TELLINGS that fit, LISTS of the plain lock, THREADS and KNOTS."""

import itertools
import random
import unittest

from plainlock.errors import CanNot, NoPlace, Unfit
from plainlock.plain import (
    barred, is_ahead, is_knot, is_list, is_telling, is_thread, knot, list_of, list_with, misfit, thread, told_by)
from plainlock.runs import telling as telling_of
from plainlock.ways import open_pairs, open_run
from tests.drawing import a_list, a_plan
from tests.helping import bent, check_call

LEFT = (("ask", 0), ("told", 0, (1, 0)), ("ask", 1), ("told", 1, (2, 0)), ("look", 0, True))
RIGHT = (("ask", 1), ("told", 1, (1, 1)), ("ask", 0), ("told", 0, (2, 1)), ("look", 1, True))
CROSSED, HALF = ((("client", 0), LEFT), (("client", 1), RIGHT)), ((("client", 0), LEFT), (("client", 1), RIGHT[:4]))
DEED, GET = ("deed", 0, 0, (1, 0), 2, ("put", 4)), ("deed", 0, 0, (1, 0), 3, ("get",))
DONE, STALE = ("done", 0, 0, 2, 0), ("stale", 0, 0, 2)
SHOP = ("store", 0, 0)
HELD = (("ask", 0), ("told", 0, (1, 0)))


def of(*rows, store=(), client=0):
    """A TELLING of the clients' ROWS, from client 0 on, and of one store's."""
    told = tuple((("client", client + k), tuple(row)) for k, row in enumerate(rows) if row)
    return told + (((SHOP, tuple(store)),) if store else ())


class Drawn:
    """TELLINGS that fit, drawn entry by entry; most of them no LIST tells."""

    def __init__(self, draw, clients=2, locks=2, many=10, stores=1):
        self.draw, self.stores = draw, {}
        self.places = stores
        rows = {}
        self.deeds = []
        for client in range(clients):
            rows[client] = self.row(client, draw.randint(1, many), locks)
        for key in self.stores:
            draw.shuffle(self.stores[key])
        answers, story = {}, []
        for (lock, place), deeds in sorted(self.stores.items()):
            integer, row = 0, []
            for number, serial, what in deeds:
                row.append((number, serial, what, integer))
                answers[lock, place, serial, number[1]] = integer
                integer = what[1] if what[0] == "put" else integer
            story.append((("store", lock, place), tuple(row)))
        told = [(("client", client), tuple(entry[:4] + (answers[entry[1:4] + (client,)],) if entry[0] == "done" else entry for entry in rows[client]))
                for client in rows if rows[client]]
        self.telling = tuple(told + story)

    def row(self, client, many, locks):
        draw, row, asking, standing, last, serial, open_deeds = self.draw, [], set(), {}, {}, 0, []
        for _ in range(4 * many):
            if len(row) >= many:
                break
            lock = draw.randrange(locks)
            roll = draw.random()
            if lock in asking:
                if roll < 0.6:
                    number = (last.get(lock, 0) + draw.randint(1, 2), client)
                    last[lock] = number[0]
                    row.append(("told", lock, number))
                    standing[lock] = number
                    asking.discard(lock)
                elif roll < 0.7:
                    row.append(("not now", lock))
                    asking.discard(lock)
            elif lock not in standing:
                if roll < 0.9:
                    row.append(("ask", lock))
                    asking.add(lock)
                else:
                    row.append(draw.choice((("look", lock, False), ("not held", lock, 0))))
            elif roll < 0.3:
                row.append(("look", lock, True))
            elif roll < 0.7:
                serial += draw.randint(1, 2)
                place = draw.randrange(self.places)
                what = draw.choice((("get",), ("put", draw.randint(1, 3))))
                row.append(("deed", lock, place, standing[lock], serial, what))
                is_done = draw.random() < 0.7
                if is_done:
                    self.stores.setdefault((lock, place), []).append((standing[lock], serial, what))
                open_deeds.append((lock, place, serial, is_done, standing[lock]))
            elif roll < 0.8 and open_deeds:
                lock, place, serial_of, is_done, number = open_deeds.pop(draw.randrange(len(open_deeds)))
                row.append(("done" if is_done else "stale", lock, place, serial_of))
                if not is_done and standing.get(lock) == number:
                    standing.pop(lock)
            elif roll < 0.9:
                row.append(draw.choice((("released", lock), ("look", lock, False), ("not held", lock, 0))))
                standing.pop(lock)
        return row


def has_list(telling):
    """Whether some list of the plain lock's steps tells it, by a search through all."""
    rows = {house[1]: row for house, row in telling if house[0] == "client"}
    shops = {house[1:]: row for house, row in telling if house[0] == "store"}
    clients = sorted(rows)
    locks = sorted({entry[1] for row in rows.values() for entry in row})
    start = (tuple(0 for _ in clients), tuple((None, (-1, -1)) for _ in locks), ())
    seen, todo = {start}, [start]
    while todo:
        state = todo.pop()
        if state[0] == tuple(len(rows[client]) for client in clients):
            return True
        for new in nexts(state, rows, shops, clients, locks):
            if new not in seen:
                seen.add(new)
                todo.append(new)
    return False


def nexts(state, rows, shops, clients, locks):
    """All states that one more STEP leads to."""
    places, held, promised = state
    for k, lock in enumerate(locks):
        holder, top = held[k]
        if holder is not None:
            yield places, held[:k] + ((None, top),) + held[k + 1:], promised
            continue
        for j, client in enumerate(clients):
            rest = [entry for entry in rows[client][places[j]:] if entry[1] == lock]
            if rest and rest[0][0] == "told" and rest[0][2] > top and rest[0][2] not in [some[1] for some in promised if some[0] == lock]:
                number = rest[0][2]
                yield places, held[:k] + ((number, number),) + held[k + 1:], promised + ((lock, number),)
    for j, client in enumerate(clients):
        if places[j] == len(rows[client]):
            continue
        entry = rows[client][places[j]]
        lock = entry[1]
        k = locks.index(lock)
        holder, top = held[k]
        ahead = rows[client][:places[j]]
        stands = what_stands(ahead, lock)
        left, gone = held, promised
        if entry[0] == "told":
            if (lock, entry[2]) not in promised:
                continue
            gone = tuple(some for some in promised if some != (lock, entry[2]))
        elif entry[0] == "look" and entry[2]:
            if holder != stands:
                continue
        elif entry[0] in ("look", "not held"):
            if stands is not None and holder == stands:
                continue
        elif entry[0] == "released" and holder == stands:
            left = held[:k] + ((None, top),) + held[k + 1:]
        elif entry[0] == "deed":
            shop = shops.get((lock, entry[2]), ())
            mine = [at for at, done in enumerate(shop) if done[:2] == entry[3:5]]
            if mine and (holder != entry[3] or not all(already(done, rows, clients, places, (lock, entry[2])) for done in shop[:mine[0]])):
                continue
        elif entry[0] == "stale":
            number = [deed[3] for deed in ahead if deed[:3] == ("deed",) + entry[1:3] and deed[4] == entry[3]][0]
            if holder == number:
                continue
        yield places[:j] + (places[j] + 1,) + places[j + 1:], left, gone


def what_stands(ahead, lock):
    stands, deeds = None, {}
    for entry in ahead:
        if entry[0] == "deed":
            deeds[entry[1], entry[2], entry[4]] = entry[3]
        if entry[1] != lock:
            continue
        if entry[0] == "told":
            stands = entry[2]
        if entry[0] in ("released", "not held") or entry[0] == "look" and not entry[2]:
            stands = None
        if entry[0] == "stale" and deeds[entry[1:4]] == stands:
            stands = None
    return stands


def already(done, rows, clients, places, store):
    """Whether this done deed's entry has been passed."""
    number, serial = done[:2]
    j = clients.index(number[1])
    deed = ("deed",) + store + done[:3]
    return deed in rows[number[1]][:places[j]]


def all_nodes(telling):
    clients = [(house[1], row) for house, row in telling if house[0] == "client"]
    return [(client, place) for client, row in clients for place in range(len(row))] + [
        ("grant", entry[1], entry[2]) for _, row in clients for entry in row if entry[0] == "told"]


def ahead_again(telling, one, other):
    """AHEAD as (a) to (d) have it."""
    rows = {house[1]: row for house, row in telling if house[0] == "client"}
    if one[0] != "grant" and other[0] != "grant":
        if one[0] == other[0] and one[1] < other[1]:
            return True
        mine, its = rows[one[0]][one[1]], rows[other[0]][other[1]]
        if mine[0] == its[0] == "deed" and mine[1:3] == its[1:3]:
            row = [done[:3] for done in dict(telling).get(("store",) + mine[1:3], ())]
            return mine[3:] in row and its[3:] in row and row.index(mine[3:]) < row.index(its[3:])
        return False
    if other[0] != "grant":
        return rows[other[0]][other[1]] == ("told",) + one[1:]
    if one[0] == "grant":
        return one[1] == other[1] and one[2] < other[2]
    row = rows[one[0]]
    entry = row[one[1]]
    if entry == ("ask", other[1]):
        answers = [later for later in row[one[1]:] if later[0] in ("told", "not now") and later[1] == other[1]]
        if answers and answers[0] == ("told",) + other[1:]:
            return True
    if entry[0] == "look" and entry[2] and entry[1] == other[1]:
        return what_stands(row[:one[1]], entry[1]) < other[2]
    if entry[0] == "deed" and entry[1] == other[1] and entry[3:] in [done[:3] for done in dict(telling).get(("store",) + entry[1:3], ())]:
        return entry[3] < other[2]
    return False


def fewest(telling, one, other):
    """The fewest NODES of a THREAD, by going on round by round; None for none."""
    nodes = all_nodes(telling)
    reached, many = {one}, 1
    passed = set()
    while reached:
        many += 1
        reached = {after for node in reached for after in nodes if ahead_again(telling, node, after)}
        if other in reached:
            return many
        reached -= passed
        passed |= reached
    return None


class Forms(unittest.TestCase):
    def check(self, wanted, *rows):
        for row in rows:
            self.assertIs(is_telling(row), wanted, row)

    def test_ordinary(self):
        self.check(True, (), CROSSED, of(HELD + (DEED, DONE), store=(((1, 0), 2, ("put", 4), 0),)))
        for entry in (("ask", 0), ("told", 7, (0, 0)), ("released", 0), ("not now", 0), DEED, GET, ("not held", 0, 9), DONE, ("done", 0, 0, 1, -7), STALE,
                      ("look", 0, True), ("look", 0, False)):
            self.check(True, of((entry,)), of((entry,), client=99))

    def test_each_fault_by_itself(self):
        for entry in (("ask",), ("ask", -1), ("ask", True), ("ask", 0, 0), ("told", 0), ("told", 0, 1), ("told", 0, (1,)), ("told", 0, (1, -1)),
                      ("told", 0, [1, 0]), ("told", 0, (True, 0)), ("released", None), ("look", 0), ("look", 0, 1), ("look", 0, None), ("not held", 0),
                      ("not held", 0, -1), ("done", 0, 0, 0, 1), ("done", 0, 0, 1), ("done", 0, 0, 1, None), ("done", 0, 0, 1, True), ("stale", 0, 0, 0),
                      ("stale", 0, 0), ("stale", 0, 0, 1, 2), ("told", 0, (1, 0), 0), ("look", 0, True, 0), ("not held", 0, 0, 0), DONE + (0,),
                      DEED + (0,), DEED[:5], DEED[:2], ("told", 0, (1, 0, 0)), ("end", 0), ("grant", 0, (1, 0)), (), None, 0, ["ask", 0], "ask", (0, 0)) + tuple(
                          bent(DEED, path, new) for path, new in (((1,), -1), ((2,), None), ((3,), (1,)), ((4,), 0), ((4,), True), ((5,), ("put",)),
                                                                  ((5,), ("put", None)), ((5,), ("get", 1)), ((5,), "get"), ((5,), ["get"]))):
            self.check(False, of((entry,)), of(HELD + (entry,)))
        entry = ((1, 0), 2, ("put", 4), 0)
        self.check(True, ((SHOP, (entry,)),))
        for path, new in (((0,), (1,)), ((0,), (1, True)), ((1,), 0), ((1,), None), ((2,), ("put", None)), ((2,), "get"), ((3,), None), ((3,), True)):
            self.check(False, ((SHOP, (bent(entry, path, new),)),))
        for house in (("store", 0, -1), ("store", True, 0), ("store", 0), ("store", 0, 0, 0), ("shop", 0, 0), ("keeper", 0, 0), ("client", 0), ("store", -1, 0)):
            self.check(False, ((house, (entry,)),))
        self.check(False, ((SHOP, (entry[:3],)),), ((SHOP, (entry + (0,),)),), ((SHOP, (list(entry),)),), ((SHOP, (("ask", 0),)),))

    def test_houses(self):
        row = (("ask", 0),)
        for house in (("client", -1), ("client", True), ("client",), ("client", 0, 0), ("keeper", 0), ("store", 0), ("store", 0, -1), SHOP, ("keeper", 0, 0), ("shop", 0, 0), (), None, 0, ["client", 0]):
            self.check(False, ((house, row),))
        self.check(False, ((("client", 0), ()),), ((("client", 0), row), (("client", 0), row)), ((("client", 1), row), (("client", 0), row)),
                   [(("client", 0), row)], ((("client", 0), list(row)),), ((("client", 0), row, 0),), ([("client", 0), row],), None, 0, (None,), "ab",
                   ((SHOP, (((1, 0), 2, ("get",), 0),)), (("client", 0), row)), ((("client", 0), None),))
        check_call(self, is_telling, ("thing",), (CROSSED,), things=(0,))


class Fits(unittest.TestCase):
    """Each rule of what fits broken by itself: where the first entry stands that is not right."""

    def check(self, wanted, *rows, store=(), client=0):
        told = of(*rows, store=store, client=client)
        self.assertTrue(is_telling(told), told)
        self.assertEqual(misfit(told), wanted and (wanted[0], wanted[1]), told)

    def clients(self, wanted, *row, store=()):
        """The ROW fits but for its last entry, if at all."""
        self.check(None if wanted else (("client", 0), len(row) - 1), row, store=store)

    def test_asking(self):
        self.clients(True, ("ask", 0))
        self.clients(True, ("ask", 0), ("ask", 1))
        self.clients(False, ("ask", 0), ("ask", 0))
        self.clients(False, *HELD, ("ask", 0))
        self.clients(True, *HELD, ("ask", 1))
        for end in (("released", 0), ("look", 0, False), ("not held", 0, 5)):
            self.clients(True, *HELD, end, ("ask", 0))
        self.clients(True, ("ask", 0), ("not now", 0), ("ask", 0))
        self.clients(False, ("not now", 0))
        self.clients(False, *HELD, ("not now", 0))
        self.clients(False, ("ask", 0), ("not now", 1))
        # what ends a hold closes no ask
        self.clients(False, ("ask", 0), ("look", 0, False), ("ask", 0))

    def test_told(self):
        self.clients(False, ("told", 0, (1, 0)))
        self.clients(False, ("ask", 1), ("told", 0, (1, 0)))
        self.clients(False, ("ask", 0), ("told", 0, (1, 1)))
        again = HELD[:1] + (("told", 0, (4, 0)), ("released", 0), ("ask", 0))
        for number, wanted in (((4, 0), False), ((3, 0), False), ((5, 0), True)):
            self.clients(wanted, *again, ("told", 0, number))
        self.clients(True, *again[:2], ("ask", 1), ("told", 1, (2, 0)))
        self.clients(False, *HELD, ("told", 0, (2, 0)))
        self.clients(False, ("ask", 0), ("not now", 0), ("told", 0, (2, 0)))

    def test_holding(self):
        for entry in (("released", 0), ("look", 0, True), DEED):
            self.clients(False, entry)
            self.clients(False, ("ask", 0), entry)
            self.clients(True, *HELD, entry)
            for end in (("released", 0), ("look", 0, False), ("not held", 0, 0)):
                self.clients(False, *HELD, end, entry)
        for entry in (("look", 0, False), ("not held", 0, 0)):
            self.clients(True, entry)
            self.clients(True, ("ask", 0), entry)
            self.clients(True, *HELD, entry)
        self.clients(True, *HELD, ("look", 1, False), ("look", 0, True))
        self.clients(False, *HELD, ("ask", 1), ("look", 1, True))

    def test_deeds(self):
        self.clients(False, *HELD, bent(DEED, (3,), (2, 0)))
        self.clients(False, *HELD, bent(DEED, (3,), (1, 1)))
        for serial, wanted in ((2, False), (1, False), (3, True)):
            self.clients(wanted, *HELD, DEED, bent(GET, (4,), serial))
        other = ("ask", 1), ("told", 1, (1, 0))
        for serial, wanted in ((2, False), (1, False), (3, True)):
            self.clients(wanted, *HELD, *other, DEED, ("deed", 1, 3, (1, 0), serial, ("get",)))

    def test_answers(self):
        entry = ((1, 0), 2, ("put", 4), 0)
        self.clients(True, *HELD, DEED, DONE, store=(entry,))
        self.clients(False, *HELD, DEED, DONE)
        self.clients(False, *HELD, DEED, bent(DONE, (4,), 1), store=(entry,))
        self.clients(False, *HELD, DEED, DONE, DONE, store=(entry,))
        self.clients(False, *HELD, DEED, DONE, STALE, store=(entry,))
        self.clients(False, *HELD, DEED, bent(DONE, (3,), 3), store=(entry,))
        self.clients(False, *HELD, DEED, bent(DONE, (2,), 1), store=(entry,))
        self.clients(False, *HELD, DONE, store=(entry,))
        self.clients(True, *HELD, DEED, STALE)
        self.clients(False, *HELD, DEED, STALE, store=(entry,))
        self.clients(False, *HELD, DEED, STALE, STALE)
        self.clients(False, *HELD, STALE)

    def test_behind_a_stale_one_its_number_does_not_stand(self):
        self.clients(False, *HELD, DEED, STALE, ("look", 0, True))
        self.clients(True, *HELD, DEED, STALE, ("ask", 0))
        again = HELD + (DEED, ("released", 0), ("ask", 0), ("told", 0, (2, 0)), STALE)
        self.clients(True, *again, ("look", 0, True))
        self.clients(False, *again, ("ask", 0))

    def test_stores(self):
        entry, second = ((1, 0), 2, ("put", 4), 0), ((1, 0), 3, ("get",), 4)
        row = HELD + (DEED, GET)
        def check(wanted, *store):
            self.check(None if wanted else (SHOP, len(store) - 1), row, store=store)
        check(True, entry)
        check(True, entry, second)
        check(True, bent(second, (3,), 0), entry)
        check(False, entry, bent(second, (3,), 0))
        check(False, second)
        check(False, bent(entry, (3,), 4))
        check(False, entry, bent(entry, (3,), 4))
        check(False, bent(entry, (0,), (2, 0)))
        check(False, bent(entry, (0,), (1, 1)))
        check(False, bent(entry, (1,), 4))
        check(False, bent(entry, (2,), ("put", 5)))
        check(False, bent(entry, (2,), ("get",)))
        self.assertEqual(misfit(of(row) + ((("store", 0, 1), (entry,)),)), (("store", 0, 1), 0))
        self.assertEqual(misfit(of(row) + ((("store", 1, 0), (entry,)),)), (("store", 1, 0), 0))
        self.assertEqual(misfit(((SHOP, (entry,)),)), (SHOP, 0))

    def test_the_first_house_by_house(self):
        wrong = ((("client", 0), (("ask", 0), ("ask", 0), ("released", 0))), (("client", 1), (("released", 0),)), (SHOP, (((1, 0), 2, ("get",), 0),)))
        self.assertEqual(misfit(wrong), (("client", 0), 1))
        self.assertEqual(misfit(wrong[1:]), (("client", 1), 0))
        self.assertEqual(misfit(wrong[2:]), (SHOP, 0))
        self.assertIsNone(misfit(()))
        for some in (wrong, CROSSED):
            check_call(self, misfit, ("telling",), (some,))

    def test_all_else_raises_unfit(self):
        wrong = of((("released", 0),))
        for call in (list_of, knot):
            self.assertRaises(Unfit, call, wrong)
        self.assertRaises(Unfit, is_knot, wrong, ())
        for call in (is_ahead, thread, list_with):
            self.assertRaises(Unfit, call, wrong, (0, 0), (7, 7))
            self.assertRaises(Unfit, call, wrong, (7, 7), (7, 8))
        self.assertRaises(Unfit, is_thread, wrong, (7, 7), (7, 8), None)


class Steps(unittest.TestCase):
    G, T = ("grant", 0, (1, 0)), (0, ("told", 0, (1, 0)))
    A = (0, ("ask", 0))
    END = ("end", 0)

    def last(self, wanted, *steps):
        """The STEPS are let but for the last one, if at all."""
        self.assertEqual(barred(steps), None if wanted else len(steps) - 1, steps)
        self.assertIs(is_list(steps), wanted)

    def test_grants(self):
        a, g, t, end = self.A, self.G, self.T, self.END
        self.last(False, g)
        self.last(True, a, g)
        self.last(False, a, g, g)
        self.last(False, a, g, end, ("grant", 0, (2, 0)))
        self.last(False, a, ("grant", 0, (1, 1)))
        self.last(False, a, ("grant", 1, (1, 0)))
        self.last(False, a, (1, ("ask", 0)), g, ("grant", 0, (1, 1)))
        self.last(True, a, (1, ("ask", 0)), g, end, ("grant", 0, (1, 1)))
        self.last(False, a, (1, ("ask", 0)), ("grant", 0, (1, 1)), end, g)
        self.last(False, a, (1, ("ask", 0)), ("grant", 0, (1, 1)), end, ("grant", 0, (0, 0)))
        self.last(True, a, (1, ("ask", 1)), g, ("grant", 1, (1, 1)))
        self.last(False, a, g, t, end, ("grant", 0, (2, 0)))
        self.last(True, a, g, t, (0, ("released", 0)), a, ("grant", 0, (2, 0)))
        self.last(False, a, (0, ("not now", 0)), g)

    def test_told_and_ends(self):
        a, g, t, end = self.A, self.G, self.T, self.END
        self.last(False, a, t)
        self.last(False, a, g, (0, ("told", 0, (2, 0))))
        self.last(True, a, g, end, t)
        self.last(True, a, g, end, (1, a[1]), ("grant", 0, (1, 1)), t)
        self.last(False, end)
        self.last(False, a, g, end, end)
        self.last(False, a, g, ("end", 1))
        self.last(False, a, g, (0, ("not now", 0)), a, t)

    def test_looks(self):
        a, g, t, end = self.A, self.G, self.T, self.END
        true, false, not_held = (0, ("look", 0, True)), (0, ("look", 0, False)), (0, ("not held", 0, 3))
        self.last(True, a, g, t, true)
        self.last(False, a, g, true)
        self.last(False, a, g, t, end, true)
        for step in (false, not_held):
            self.last(True, step)
            self.last(True, a, g, step)
            self.last(False, a, g, t, step)
            self.last(True, a, g, t, end, step)
            self.last(True, a, g, t, end, (1, a[1]), ("grant", 0, (1, 1)), step)
            self.last(False, a, g, t, end, step, true)

    def test_what_ends_a_holder(self):
        a, g, t, end = self.A, self.G, self.T, self.END
        self.last(False, a, g, t, (0, ("released", 0)), end)
        self.last(False, a, g, (0, ("not now", 0)), end)
        self.last(True, a, (1, a[1]), g, (1, ("not now", 0)), end)
        other = (1, a[1]), ("grant", 0, (1, 1))
        self.last(True, a, g, t, end, *other, (0, ("released", 0)), end)
        self.last(True, a, g, end, *other, (0, ("not now", 0)), end)

    def test_deeds(self):
        a, g, t, end = self.A, self.G, self.T, self.END
        deed = (0, DEED)
        self.last(True, a, g, t, deed)
        self.last(True, a, g, t, deed + (0,))
        self.last(False, a, g, t, deed + (1,))
        self.last(True, a, g, t, end, deed)
        self.last(False, a, g, t, end, deed + (0,))
        self.last(False, a, g, deed)
        self.last(True, a, g, t, deed + (0,), (0, GET, 4))
        self.last(False, a, g, t, deed + (0,), (0, GET, 0))
        self.last(True, a, g, t, deed, (0, GET, 0))
        self.last(False, a, g, t, deed + (0,), deed + (4,))
        self.last(False, a, g, t, (0, GET, 0), deed + (0,))

    def test_answers(self):
        a, g, t, end = self.A, self.G, self.T, self.END
        deed, done, stale = (0, DEED), (0, DONE), (0, STALE)
        self.last(True, a, g, t, deed + (0,), done)
        self.last(True, a, g, t, deed + (0,), end, done)
        self.last(False, a, g, t, deed + (0,), (0, bent(DONE, (4,), 4)))
        self.last(False, a, g, t, deed, done)
        self.last(False, a, g, t, deed + (0,), done, done)
        self.last(False, a, g, t, done)
        self.last(False, a, g, t, deed, stale)
        self.last(True, a, g, t, deed, end, stale)
        self.last(False, a, g, t, deed + (0,), end, stale)
        self.last(True, a, g, t, deed, (0, ("released", 0)), stale)
        self.last(False, a, g, t, deed, end, stale, stale)
        self.last(False, a, g, t, deed, end, stale, (0, ("look", 0, True)))

    def test_entries_are_right_likewise(self):
        a, g, t = self.A, self.G, self.T
        self.last(False, a, a)
        self.last(False, (0, ("not now", 0)))
        self.last(False, (0, ("released", 0)))
        self.last(False, a, g, t, a)
        self.last(False, a, g, t, (1, ("look", 0, True)))
        self.last(True, (1, a[1]), ("grant", 0, (0, 1)), (1, ("told", 0, (0, 1))))

    def test_is_list_of_other_things(self):
        good = (self.A, self.G, self.T)
        self.assertIs(is_list(()), True)
        for thing in (list(good), None, 0, "ab", good + (None,), good + ((),), good + ((0,),), good + (("end",),), good + (("end", -1),), good + (("end", True),),
                      good + (("end", 0, 0),), (self.A, ("grant", 0)), (self.A, ("grant", 0, (1,))), (self.A, ("grant", 0, [1, 0])), (list(self.A),),
                      ((True, ("ask", 0)),), ((-1, ("ask", 0)),), ((0, ("ask", 0), 0),), good + ((0, DEED, None),), good + ((0, DEED, True),),
                      good + ((0, DEED, 0, 0),), ((0, ["ask", 0]),), (("client", ("ask", 0)),), ((0, ("wait", 0)),)):
            self.assertIs(is_list(thing), False, thing)
        check_call(self, is_list, ("thing",), (good,), things=(0,))
        for some in (good, good[1:]):
            check_call(self, barred, ("steps",), (some,))
            check_call(self, told_by, ("steps",), (some,))

    def test_told_by(self):
        steps = (self.A, (1, ("look", 3, False)), self.G, self.T, (0, DEED, 0), (0, GET), ("end", 0), (0, DONE))
        self.assertEqual(told_by(steps), of(HELD + (DEED, GET, DONE), (("look", 3, False),), store=(((1, 0), 2, ("put", 4), 0),)))
        self.assertEqual(told_by(()), ())
        self.assertRaises(Unfit, told_by, steps + (("end", 0),))
        self.assertRaises(Unfit, told_by, (None,))

    def test_drawn_lists(self):
        draw = random.Random(1)
        words = set()
        for _ in range(150):
            steps = a_list(draw, draw.randint(0, 40))
            self.assertTrue(is_list(steps))
            told = told_by(steps)
            self.assertTrue(is_telling(told))
            self.assertIsNone(misfit(told))
            words |= {step[0] if step[0] in ("grant", "end") else step[1][0] for step in steps}
            for k in range(len(steps)):
                self.assertIsNone(barred(steps[:k]))
        self.assertEqual(len(words), 11)


class Knots(unittest.TestCase):
    def test_ahead(self):
        draw = random.Random(2)
        found = {True: 0, False: 0}
        for _ in range(60):
            told = Drawn(draw, draw.randint(1, 3), draw.randint(1, 2), 7).telling
            self.assertIsNone(misfit(told))
            for one, other in itertools.product(all_nodes(told), repeat=2):
                if draw.random() < 0.4:
                    wanted = ahead_again(told, one, other)
                    self.assertIs(is_ahead(told, one, other), wanted, (told, one, other))
                    found[wanted] += 1
        self.assertGreater(min(found.values()), 500)

    def test_each_of_a_to_d(self):
        story = of(HELD + (DEED, GET, ("released", 0), ("ask", 0), ("not now", 0)), (("ask", 0), ("told", 0, (2, 1)), ("deed", 0, 0, (2, 1), 1, ("get",))),
                   store=(((2, 1), 1, ("get",), 0), ((1, 0), 2, ("put", 4), 0)))
        one, two = ("grant", 0, (1, 0)), ("grant", 0, (2, 1))
        for pair, wanted in (
                (((0, 0), (0, 3)), True), (((0, 3), (0, 0)), False), (((0, 0), (0, 0)), False), (((0, 0), (1, 2)), False),
                (((1, 2), (0, 2)), True), (((0, 2), (1, 2)), False), (((0, 3), (1, 2)), False), (((1, 2), (0, 3)), False),
                (((0, 0), one), True), ((one, (0, 1)), True), ((one, (0, 2)), False), (((0, 5), one), False), (((0, 0), two), False), ((two, (0, 1)), False),
                ((one, two), True), ((two, one), False), ((one, one), False), (((0, 2), two), True), (((0, 3), two), False), (((0, 1), two), False),
                (((1, 2), one), False), (((0, 4), two), False), (((0, 1), one), False)):
            self.assertIs(is_ahead(story, *pair), wanted, pair)
        looks = of(HELD + (("look", 0, True), ("look", 0, False), ("look", 0, False)), (("ask", 0), ("told", 0, (2, 1))))
        for place, wanted in ((2, True), (3, False), (4, False)):
            self.assertIs(is_ahead(looks, (0, place), two), wanted)
        other = of(HELD + (("look", 0, True),), (("ask", 1), ("told", 1, (2, 1))))
        self.assertIs(is_ahead(other, (0, 2), ("grant", 1, (2, 1))), False)

    def test_always_just_one(self):
        draw = random.Random(3)
        found = {True: 0, False: 0}
        for k in range(300):
            told = Drawn(draw, draw.choice((1, 2, 3, 3)), draw.randint(1, 2), 9, draw.randint(1, 2)).telling
            found[self.one_of_both(told, k < 140)] += 1
        self.assertGreater(min(found.values()), 60)

    def one_of_both(self, told, thoroughly=False):
        self.assertIsNone(misfit(told))
        try:
            steps = list_of(told)
        except CanNot:
            circle = knot(told)
            self.assertIs(is_knot(told, circle), True)
            if thoroughly:
                self.assertFalse(has_list(told))
                many = [fewest(told, node, node) for node in all_nodes(told)]
                self.assertEqual(len(circle), min(some for some in many if some) - 1)
            return False
        self.assertTrue(is_list(steps))
        self.assertEqual(told_by(steps), told)
        self.assertRaises(CanNot, knot, told)
        if thoroughly:
            self.assertTrue(has_list(told))
        return True

    def test_of_drawn_lists(self):
        draw = random.Random(4)
        for _ in range(100):
            self.assertTrue(self.one_of_both(told_by(a_list(draw, draw.randint(0, 60)))))

    def test_one_lock_whose_stores_go_up(self):
        draw = random.Random(5)
        many = 0
        for _ in range(400):
            told = Drawn(draw, 3, 1, 7).telling
            if all(list(row) == sorted(row, key=lambda entry: entry[:2]) for house, row in told if house[0] == "store"):
                many += 1
                self.assertTrue(self.one_of_both(told))
        self.assertGreater(many, 60)

    def test_of_open_runs(self):
        """A late deed at a store is a KNOT of one lock."""
        draw = random.Random(6)
        many = 0
        for _ in range(60):
            plan = a_plan(draw, 2, ((False, True),))
            for lot, other in open_pairs(plan, "store")[:2]:
                many += 1
                self.assertFalse(self.one_of_both(telling_of(plan, open_run(plan, lot, other, "store"))))
        self.assertGreater(many, 40)

    def test_is_knot(self):
        good = ((0, 4), ("grant", 0, (2, 1)), (1, 3), (1, 4), ("grant", 1, (2, 0)), (0, 3))
        for k in range(6):
            self.assertIs(is_knot(CROSSED, good[k:] + good[:k]), True)
        self.assertIs(is_knot(CROSSED, good + good), True)
        for thing in ((), good[:5], good[1:], good[::-1], list(good), (list(good[0]),) + good[1:], None, 0, good[:1], bent(good, (0,), (0, 9)),
                      bent(good, (0,), (False, 4)), bent(good, (1,), ("grant", 0, (2, 0))), bent(good, (1,), ("grant", False, (2, 1))),
                      bent(good, (2,), None), good + (None,), bent(good, (2,), ("grant", 0))):
            self.assertIs(is_knot(CROSSED, thing), False, thing)
        check_call(self, is_knot, ("telling", "thing"), (CROSSED, good), things=(1,))
        for some in (CROSSED, HALF):
            check_call(self, knot, ("telling",), (some,))
            check_call(self, list_of, ("telling",), (some,))


class Threads(unittest.TestCase):
    def test_beside_a_search(self):
        draw = random.Random(7)
        found = {True: 0, False: 0}
        for _ in range(50):
            told = Drawn(draw, 2, 2, 6).telling
            try:
                steps = list_of(told)
            except CanNot:
                steps = None
            nodes = all_nodes(told)
            for _ in range(15):
                one, other = draw.choice(nodes), draw.choice(nodes)
                many = fewest(told, one, other)
                if many is None:
                    self.assertRaises(CanNot, thread, told, one, other)
                else:
                    way = thread(told, one, other)
                    self.assertEqual((len(way), way[0], way[-1]), (many, one, other))
                    self.assertIs(is_thread(told, one, other, way), True)
                found[many is None] += 1
                self.check_list_with(told, one, other, steps, fewest(told, other, one))
        self.assertGreater(min(found.values()), 100)

    def check_list_with(self, told, one, other, steps, back):
        if steps is None or one == other or back is not None:
            self.assertRaises(CanNot, list_with, told, one, other)
            return
        steps = list_with(told, one, other)
        self.assertTrue(is_list(steps))
        self.assertEqual(told_by(steps), told)
        self.assertLess(self.place(steps, one), self.place(steps, other))

    def place(self, steps, node):
        if node[0] == "grant":
            return steps.index(node)
        return [k for k, step in enumerate(steps) if step[0] == node[0]][node[1]]

    def test_is_thread(self):
        one, other = (0, 4), (1, 3)
        good = (one, ("grant", 0, (2, 1)), other)
        self.assertIs(is_thread(HALF, one, other, good), True)
        self.assertIs(is_thread(HALF, (0, 0), other, ((0, 0), one) + good[1:]), True)
        self.assertIs(is_thread(HALF, (0, 0), (0, 2), ((0, 0), (0, 2))), True)
        for thing in (good[:2], good[1:], good[::-1], (one, other), list(good), (), (one,), None, 0, good + (other,), (one, list(good[1]), other),
                      (one, ("grant", 0, (9, 1)), other), (one, None, other), good + ((1, 9),), ((0, 3),) + good):
            self.assertIs(is_thread(HALF, one, other, thing), False, thing)
        self.assertIs(is_thread(HALF, one, one, (one,)), False)
        check_call(self, is_thread, ("telling", "one", "other", "thing"), (HALF, one, other, good), things=(3,))

    def test_no_place(self):
        for wrong in ((0, 5), (2, 0), (0, -1), ("grant", 0, (1, 1)), ("grant", 1, (1, 0)), ("grant", 2, (1, 0)), (True, 0), (0, True), (0, None), (), ("told", 0, (1, 0))):
            for call in (is_ahead, thread, list_with):
                for one, other in ((wrong, (0, 0)), ((0, 0), wrong), (wrong, (9, 9))):
                    with self.assertRaises(NoPlace) as caught:
                        call(HALF, one, other)
                    self.assertEqual(caught.exception.place, wrong)
            with self.assertRaises(NoPlace) as caught:
                is_thread(HALF, (0, 0), wrong, None)
            self.assertEqual(caught.exception.place, wrong)

    def test_rules_for_calls(self):
        for call in (is_ahead, thread, list_with):
            for one, other in (((0, 4), (1, 3)), ((1, 3), (0, 4)), ((0, 4), (9, 9)), (("grant", 0, (1, 0)), (0, 2))):
                check_call(self, call, ("telling", "one", "other"), (HALF, one, other))
        check_call(self, list_with, ("telling", "one", "other"), (CROSSED, (0, 0), (1, 0)))

    def test_at_the_bounds(self):
        draw = random.Random(8)
        for _ in range(4):
            told = Drawn(draw, 6, 3, 10, 3).telling
            Knots.one_of_both(self, told)
            nodes = all_nodes(told)
            for _ in range(5):
                try:
                    thread(told, draw.choice(nodes), draw.choice(nodes))
                except CanNot:
                    pass


if __name__ == "__main__":
    unittest.main()
