"""Unsure looks: a RUN in which a keeper lets another client in while the first one believes by it."""

from plainlock.courses import Course
from plainlock.fractions import ZERO, least, minus, negative, over, plus
from plainlock.plans import longest_belief

FIRST = ("client", 0)
NEXT = ("client", 1)


class Unsure:
    """Client 0 looks at the moment 0, as late as it believes; all else is as early as can be."""

    def __init__(self, plan, lot, keeper):
        self._plan = plan
        self.lot = lot
        self.keeper = keeper
        self.ask_least, self.grant_least = plan[3][0][0], plan[3][1][0]
        # How long behind its grant the keeper is free again, and whether by a fall.
        self.kept, self.falls = self._shortest()

    def _shortest(self):
        length, record, grace = self._plan[1][self.keeper]
        fast = self._plan[2][1][1]
        times = [] if length is None else [over(length, fast)]
        if record == "number":
            times.append(over(grace, fast))
        kept = least(times)
        return kept, length is None or kept != times[0]

    def run(self):
        """The RUN."""
        course = Course(self._plan)
        believed, granted = self._moments()
        house = ("keeper", self.keeper)
        course.put(minus(granted, self.ask_least), FIRST, ("ask", 0))
        for keeper in self.lot:
            course.fetch(granted, ("keeper", keeper), "ask", FIRST, minus(granted, self.ask_least))
        if self.falls:
            course.put(granted, house, ("fall",))
        for keeper in self.lot:
            course.fetch(believed, FIRST, "grant", ("keeper", keeper), granted)
        free = plus(granted, self.kept)
        course.put(minus(free, self.ask_least), NEXT, ("ask", 0))
        course.fetch(free, house, "ask", NEXT, minus(free, self.ask_least))
        course.put(ZERO, FIRST, ("look", 0))
        return course.run()

    def _moments(self):
        """When client 0 takes its grants, and when they are sent."""
        belief = longest_belief(self._plan)
        if self._plan[4][1] == "sent":
            granted = minus(self.ask_least, belief)
            return plus(granted, self.grant_least), granted
        most = self._plan[3][1][1]
        if most is None:
            # As late as it has to be for the keeper to be free in time.
            most = plus(self.grant_least, self.kept)
        return negative(belief), negative(plus(belief, most))
