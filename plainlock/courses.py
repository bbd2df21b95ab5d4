"""Courses: what two clients, keepers and stores do at set moments, made a RUN of it."""

from plainlock.fractions import less, minus, times
from plainlock.runs import Machine, first_of


class Course:
    """Acts of houses at moments; ("fetch", word, house, moment) takes the letter sent then.

    Of acts at one moment the one that was added first comes first. Clients'
    readings are slow times the moment, keepers' fast times it.
    """

    def __init__(self, plan):
        self.machine = Machine(plan)
        # Of a pair of PLANS both have the same CLOCKS.
        self._plan = first_of(plan)
        self._acts = []
        # What was the first moment is the moment 0 of the RUN.
        self._begin = None

    def put(self, moment, house, act):
        """A house does this at this moment."""
        self._acts.append((moment, house, act))

    def fetch(self, moment, house, word, sender, start):
        """A house takes the letter with this word that sender sent it at the moment start."""
        self._acts.append((moment, house, ("fetch", word, sender, start)))

    def play(self):
        """Play all that was added, which is not ahead of what was played."""
        acts = _sorted(self._acts)
        self._acts = []
        for moment, house, act in acts:
            if self._begin is None:
                self._begin = moment
            if act[0] == "fetch":
                act = ("take", _sending(self.machine, house, act[1], act[2], minus(act[3], self._begin)))
            moment = minus(moment, self._begin)
            self.machine.play((house, moment, reading_at(self._plan, house, moment), act))

    def run(self):
        """The RUN of all that was added."""
        self.play()
        return self.machine.run()


def reading_at(plan, house, moment):
    """slow times the moment at a client, fast times it at a keeper, None at a store."""
    if house[0] == "store":
        return None
    return times(plan[2][0][0] if house[0] == "client" else plan[2][1][1], moment)


def _sorted(acts):
    """acts by their moments, those of one moment in their order."""
    found = []
    for act in acts:
        at = len(found)
        while at > 0 and less(act[0], found[at - 1][0]):
            at -= 1
        found.insert(at, act)
    return found


def _sending(machine, house, word, sender, start):
    """The number of the newest EVENT at which sender sent such a letter to house at this moment."""
    letters = machine.letters()
    found = None
    for number, event in enumerate(machine.run()):
        if event[0] == sender and event[1] == start:
            for other, letter in letters[number]:
                if other == house and letter[0] == word:
                    found = number
    return found
