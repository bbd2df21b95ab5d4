"""CLAIMS, kind by kind: whether they are so, and what is a PAPER for or against them."""

from plainlock.borders import apart, holds, is_condition, is_tree, tree
from plainlock.changes import crossings, is_change, is_run_of, late_run
from plainlock.errors import CanNot
from plainlock.forms import is_count, is_number, is_place, is_row, is_same, is_tuple_of
from plainlock.fractions import is_fraction
from plainlock.kinds import is_kind_run, is_rules, kind_list, kinds_right, wrong_run
from plainlock.lots import circle_run, is_keepers, is_roster, is_ticket_run, order_of, ticket_rows
from plainlock.plain import is_knot, is_list, is_telling, knot, list_of, misfit, told_by
from plainlock.plans import can_hold, is_plan
from plainlock.right import bad_run, is_bad, is_proof, is_right, is_within, proof
from plainlock.runs import first_broken, is_events, is_run
from plainlock.sheets import is_no_way, is_play, is_sheet, no_way, play
from plainlock.sums import answer, is_answer, is_lines, is_sum, sum_against
from plainlock.ways import late_look

WORDS = ("lines", "sheet", "within", "run", "plain", "right", "roster", "kinds", "smooth")
# The unknowns of CONDITIONS are numbers below 3 at most.
UNKNOWNS = 4


class Claim:
    """What stands behind the word of a CLAIM, and a PAPER for or against it, worked out once."""

    def __init__(self, parts):
        self.parts = parts

    def is_formed(self):
        """Whether there is one part alone, and it has its form."""
        return len(self.parts) == 1 and self.has_form(self.parts[0])

    def so(self):
        """Whether it is so."""
        try:
            self.paper_for()
        except CanNot:
            return False
        return True


class LinesClaim(Claim):
    def has_form(self, thing):
        return is_lines(thing)

    def paper_for(self):
        return answer(self.parts[0])

    def paper_against(self):
        return sum_against(self.parts[0])

    def is_for(self, thing):
        return is_answer(self.parts[0], thing)

    def is_against(self, thing):
        return is_sum(self.parts[0], thing)


class SheetClaim(Claim):
    def has_form(self, thing):
        return is_sheet(thing)

    def paper_for(self):
        return play(self.parts[0])

    def paper_against(self):
        return no_way(self.parts[0])

    def is_for(self, thing):
        return is_play(self.parts[0], thing)

    def is_against(self, thing):
        return is_no_way(self.parts[0], thing)


class WithinClaim(Claim):
    def is_formed(self):
        if len(self.parts) != 3 or not is_place(UNKNOWNS, self.parts[0]):
            return False
        return all([is_condition(self.parts[0], part) for part in self.parts[1:]])

    def so(self):
        try:
            self.paper_against()
        except CanNot:
            return True
        return False

    def paper_for(self):
        unknowns, condition, other = self.parts
        return tree(unknowns, condition, other)

    def paper_against(self):
        unknowns, condition, other = self.parts
        return apart(unknowns, condition, other)

    def is_for(self, thing):
        unknowns, condition, other = self.parts
        return is_tree(unknowns, condition, other, thing)

    def is_against(self, thing):
        unknowns, condition, other = self.parts
        if not is_row(unknowns, thing) or not is_tuple_of(is_fraction, thing):
            return False
        return holds(condition, thing) and not holds(other, thing)


class RunClaim(Claim):
    def is_formed(self):
        return len(self.parts) == 2 and is_plan(self.parts[0]) and is_events(self.parts[0], self.parts[1])

    def so(self):
        return self.paper_against() is None

    def paper_for(self):
        return ()

    def paper_against(self):
        return first_broken(self.parts[0], self.parts[1])

    def is_for(self, thing):
        return thing == () and self.so()

    def is_against(self, thing):
        return not self.so() and is_same(thing, self.paper_against())


class PlainClaim(Claim):
    def has_form(self, thing):
        return is_telling(thing)

    def so(self):
        if misfit(self.parts[0]) is not None:
            return False
        try:
            list_of(self.parts[0])
        except CanNot:
            return False
        return True

    def paper_for(self):
        return list_of(self.parts[0])

    def paper_against(self):
        wrong = misfit(self.parts[0])
        return knot(self.parts[0]) if wrong is None else wrong

    def is_for(self, thing):
        return is_list(thing) and told_by(thing) == self.parts[0]

    def is_against(self, thing):
        wrong = misfit(self.parts[0])
        return is_knot(self.parts[0], thing) if wrong is None else is_same(thing, wrong)


class RightClaim(Claim):
    def is_formed(self):
        if len(self.parts) != 3:
            return False
        plan, locks, language = self.parts
        return is_plan(plan) and is_count(locks) and locks >= 1 and language in ("looks", "deeds")

    def so(self):
        plan, locks, language = self.parts
        return is_right(plan, locks, language)

    def paper_for(self):
        plan, locks, language = self.parts
        return proof(plan, locks, language) if can_hold(plan) else ()

    def paper_against(self):
        plan, locks, language = self.parts
        return bad_run(plan, locks, language)

    def is_for(self, thing):
        plan, locks, language = self.parts
        return is_proof(plan, locks, language, thing) if can_hold(plan) else thing == ()

    def is_against(self, thing):
        plan, locks, language = self.parts
        return is_run(plan, thing) and is_within(thing, locks, language) and is_bad(plan, thing)


class RosterClaim(Claim):
    def is_formed(self):
        return len(self.parts) == 2 and is_roster(self.parts[0]) and is_keepers(self.parts[1])

    def _common(self):
        """The keepers of KEPT that all LOTS share."""
        roster, kept = self.parts
        return [keeper for keeper in kept if all([keeper in lot for lot in roster])]

    def so(self):
        return self._common() != []

    def paper_for(self):
        return self._common()[0]

    def paper_against(self):
        return circle_run(self.parts[0], self.parts[1])

    def is_for(self, thing):
        return is_number(thing) and thing in self._common()

    def is_against(self, thing):
        roster, kept = self.parts
        if not is_ticket_run(roster, kept, thing):
            return False
        try:
            order_of(ticket_rows(roster, kept, thing))
        except CanNot:
            return True
        return False


class KindsClaim(Claim):
    def has_form(self, thing):
        return is_rules(thing)

    def so(self):
        return kinds_right(self.parts[0])

    def paper_for(self):
        return ()

    def paper_against(self):
        return wrong_run(self.parts[0])

    def is_for(self, thing):
        return thing == () and self.so()

    def is_against(self, thing):
        if not is_kind_run(self.parts[0], thing):
            return False
        try:
            kind_list(self.parts[0], thing)
        except CanNot:
            return True
        return False


class SmoothClaim(Claim):
    def has_form(self, thing):
        return is_change(thing)

    def so(self):
        return crossings(self.parts[0]) == ()

    def paper_for(self):
        return ()

    def paper_against(self):
        return late_run(self.parts[0])

    def is_for(self, thing):
        return thing == () and self.so()

    def is_against(self, thing):
        change = self.parts[0]
        return is_run_of(change, thing) and late_look(change[:2], thing) is not None


def claim_of(thing):
    """The Claim of what begins with one of the words."""
    word, parts = thing[0], thing[1:]
    if word == "lines":
        return LinesClaim(parts)
    if word == "sheet":
        return SheetClaim(parts)
    if word == "within":
        return WithinClaim(parts)
    if word == "run":
        return RunClaim(parts)
    if word == "plain":
        return PlainClaim(parts)
    if word == "right":
        return RightClaim(parts)
    if word == "roster":
        return RosterClaim(parts)
    return KindsClaim(parts) if word == "kinds" else SmoothClaim(parts)
