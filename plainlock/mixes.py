"""MIXES: how a client's hold by one PLAN can end ahead of one by another, while a CHANGE is on its way.

A TIE stands here as (x, y, most, waits): most is a FRACTION, to be made less
by the waits at these places.
"""

from plainlock.fractions import ZERO, negative, over, plus
from plainlock.plans import longest_belief

# The points of a MIX, beside 4, an ask taken, and 6, one granted.
OLD_ASK = 0
START = 1
SWITCH = 2
ASK = 3
TAKEN = 4
FALL = 5
GRANTED = 6
NEXT_ASK = 7
TOLD = 8
LOOK = 9
MANY = 10
POINTS = (("keepers", SWITCH), ("start", START), ("stop", OLD_ASK))


def from_on(x, y, time):
    """y comes at least so long behind x, as a list of one TIE."""
    return [(y, x, negative(time), ())]


def up_to(x, y, most):
    """y comes at most so long behind x; no TIE if that is None."""
    return [] if most is None else [(x, y, most, ())]


def sum_if_told(some):
    """What these add up to; None if one of them is None."""
    found = ZERO
    for x in some:
        if x is None:
            return None
        found = plus(found, x)
    return found


class Mixing:
    """The PLANS old and new, and the stages of a change from one to the other."""

    def __init__(self, old, new, stages):
        self.old = old
        self.new = new
        self.stages = stages
        self.ask_leg, self.grant_leg = old[3][:2]
        self.fast = old[2][1][1]

    def plan_by(self, word):
        return self.new if word == "new" else self.old

    def hows(self, keeper):
        """How this keeper can end the lesser hold."""
        found = []
        for by in ("new", "old"):
            length, record, _ = self.plan_by(by)[1][keeper]
            if length is not None:
                found.append(("lapse", by))
            if record == "number":
                found.append(("fall", by))
        return found

    def ties(self, mix):
        """The TIES of a MIX."""
        a, b, keeper, how = mix
        return self.lesser(a) + self.greater(b) + self.ending(keeper, how) + from_on(TOLD, LOOK, ZERO) + self.staged()

    def lesser(self, a):
        """The TIES of the lesser hold."""
        plan = self.plan_by(a)
        found = from_on(ASK, TAKEN, self.ask_leg[0]) + up_to(ASK, TAKEN, self.ask_leg[1])
        found.extend(from_on(TAKEN, LOOK, self.grant_leg[0]))
        belief = longest_belief(plan)
        if plan[4][1] == "sent":
            found.extend(up_to(ASK, LOOK, belief))
        else:
            found.extend(up_to(TAKEN, LOOK, sum_if_told([belief, self.grant_leg[1]])))
        return found + (from_on(ASK, OLD_ASK, ZERO) if a == "old" else from_on(START, ASK, ZERO))

    def greater(self, b):
        """The TIES of the greater hold."""
        plan = self.plan_by(b)
        found = from_on(NEXT_ASK, GRANTED, self.ask_leg[0]) + up_to(NEXT_ASK, GRANTED, self.ask_leg[1])
        found.extend(from_on(GRANTED, TOLD, self.grant_leg[0]))
        if b == "new":
            return found + from_on(START, NEXT_ASK, ZERO)
        belief = longest_belief(plan)
        if plan[4][1] == "taken":
            belief = sum_if_told([belief, self.ask_leg[1], self.grant_leg[1]])
        return found + from_on(NEXT_ASK, OLD_ASK, ZERO) + up_to(OLD_ASK, TOLD, belief)

    def ending(self, keeper, how):
        """The TIES of how a keeper ends the lesser hold ahead of the greater one."""
        word, by = how
        length, _, grace = self.plan_by(by)[1][keeper]
        if word == "lapse":
            last = TAKEN
            found = from_on(TAKEN, GRANTED, over(length, self.fast))
        else:
            last = FALL
            found = from_on(TAKEN, FALL, ZERO) + from_on(FALL, GRANTED, over(grace, self.fast))
        return found + (from_on(last, SWITCH, ZERO) if by == "old" else from_on(SWITCH, last, ZERO))

    def staged(self):
        """The TIES of the stages."""
        found = []
        for p, start in POINTS:
            for q, end in POINTS:
                first, last = stage_of(self.stages, p), stage_of(self.stages, q)
                if first < last and q != "stop":
                    found.append((end, start, ZERO, tuple(range(first, last))))
        return found


def stage_of(stages, word):
    """The place of the stage in which a word stands."""
    return [place for place, words in enumerate(stages) if word in words][0]
