"""A worked plan: a Desk that holds a PLAN and its deeds, and the REPLIES to what is asked of it."""

from plainlock.errors import CanNot, NoPlace, TooMany, Unfit
from plainlock.forms import tupled
from plainlock.plans import changed, scaled
from plainlock.readers import fit
from plainlock.requests import read_case, read_goal, read_pair, read_setting, read_way
from plainlock.right import bad_run, must_ask, reasons
from plainlock.texts import events_text, plan_text
from plainlock.ways import open_pairs, overlap, widest
from plainlock.words import fraction_word, lot_word, number_word, read_fraction

MANY = 100


class Desk:
    """A PLAN, and the deeds by which it came to be as it is."""

    def __init__(self, plan):
        # The PLANS ahead of each deed that stands, the last one as it is now, and those taken back.
        self._past = [tupled(plan)]
        self._future = []

    def plan(self):
        """The PLAN as it is now."""
        return self._past[-1]

    def put(self, name, value):
        """Change one SETTING; the errors of changed, then TooMany()."""
        self._do(changed(self.plan(), name, value))

    def scale(self, factor):
        """Scale all TIMES; the error of scaled, then TooMany()."""
        self._do(scaled(self.plan(), factor))

    def _do(self, plan):
        if len(self._past) > MANY:
            raise TooMany()
        self._past.append(plan)
        self._future = []

    def undo(self):
        """Take back the last deed that stands; CanNot() if there is none."""
        if len(self._past) == 1:
            raise CanNot()
        self._future.append(self._past.pop())

    def redo(self):
        """Do again the last deed that was taken back; CanNot() if there is none."""
        if not self._future:
            raise CanNot()
        self._past.append(self._future.pop())

    def depth(self):
        """How many deeds undo and redo can go."""
        return (len(self._past) - 1, len(self._future))

    def twin(self):
        """Another Desk that has done and taken back the same."""
        new = Desk(self.plan())
        new._past = list(self._past)
        new._future = list(self._future)
        return new


def reply(desk, request):
    """The REPLY to a REQUEST, a list of texts; the Desk does what it says."""
    words = request.split(" ")
    try:
        told = _told_of(words)
    except Unfit:
        return ["unknown"]
    try:
        return _answer(desk, words[0], told)
    except Unfit:
        return ["unfit"]
    except NoPlace:
        return ["no place"]
    except CanNot:
        return ["cannot"]
    except TooMany:
        return ["too many"]


def _told_of(words):
    """What the words of a REQUEST behind the first one tell; Unfit() if they are none."""
    word, rest = words[0], words[1:]
    if word == "set":
        return read_setting(rest)
    if word == "scale":
        return (read_fraction(fit(rest, len(rest) == 1)[0]),)
    if word in ("right", "run"):
        return read_case(rest)
    if word == "overlap":
        return read_way(rest)
    if word == "widest":
        return read_pair(rest)
    if word == "open":
        return (read_goal(fit(rest, len(rest) == 1)[0]),)
    return fit((), rest == [] and word in ("undo", "redo", "show", "depth", "must"))


def _answer(desk, word, told):
    """The REPLY to a REQUEST with this first word, and what the others tell."""
    plan = desk.plan()
    if word in ("set", "scale", "undo", "redo"):
        _do(desk, word, told)
        return ["done"]
    if word == "show":
        return plan_text(plan).split("\n")
    if word == "depth":
        undo, redo = desk.depth()
        return [" ".join(["undo", number_word(undo), "redo", number_word(redo)])]
    if word == "right":
        why = reasons(plan, told[0], told[1])
        return [" ".join(("wrong",) + why) if why else "right"]
    if word == "run":
        return events_text(bad_run(plan, told[0], told[1])).split("\n")
    if word == "must":
        return [" ".join(["stores"] + [number_word(place) for place in must_ask(plan)])]
    if word == "overlap":
        return [fraction_word(overlap(plan, told[0], told[1]))]
    if word == "widest":
        return [fraction_word(widest(plan, told[0], told[1], told[2]))]
    pairs = open_pairs(plan, told[0])
    return [lot_word(lot) + " " + lot_word(other) for lot, other in pairs] if pairs else ["shut"]


def _do(desk, word, told):
    if word == "set":
        desk.put(told[0], told[1])
    elif word == "scale":
        desk.scale(told[0])
    elif word == "undo":
        desk.undo()
    else:
        desk.redo()


def replies(plan, requests):
    """The tuple of the REPLIES, each a tuple, of a new Desk to these REQUESTS."""
    desk = Desk(plan)
    return tuple([tuple(reply(desk, request)) for request in requests])
