"""What a PROGRAM does, read along a ROW of what it hears."""

from plainlock.listeners import Listener


class Doing:
    """A PROGRAM read so far: what is left of it, and what its last entry waits for."""

    def __init__(self, program):
        self.left = program
        # The ask or the deed whose answer is next; None without one.
        self.waits = None
        self.hearing = Listener(0)
        self._go_on()

    def reads(self, row):
        """Whether row is what it does, up to any place; it is read then."""
        for entry in row:
            if not self._reads(entry):
                return False
        return True

    def has_ended(self):
        return self.left == ()

    def _reads(self, entry):
        """Whether entry is what it does or hears next; it goes on behind it."""
        if self.waits is not None:
            is_so = self._is_answered(entry)
        else:
            is_so = self.left != () and self._does(entry)
        self.hearing.hear(entry)
        self._go_on()
        return is_so

    def _is_answered(self, entry):
        """Whether entry answers the ask or deed that waits."""
        asked, self.waits = self.waits, None
        if asked[0] == "ask":
            if entry[0] == "told" and entry[1] == asked[1]:
                self.left = self.left[2]
                return True
            # Behind a not now the take is what is left, so that it asks again.
            return entry == ("not now", asked[1])
        if entry[0] not in ("done", "stale") or entry[1:4] != asked[1:3] + (asked[4],):
            return False
        self.left = behind(self.left, entry)
        return True

    def _does(self, entry):
        """Whether entry is what is left to do now."""
        word, lock = self.left[:2]
        if word == "take":
            self.waits = entry
            return entry == ("ask", lock)
        if word == "free":
            self.left = self.left[2]
            return entry == ("released", lock)
        if word == "look":
            is_look = entry[:2] == self.left[:2]
            self.left = self.left[2] if is_look and entry[2] else self.left[3]
            return is_look
        place = self.left[2]
        if entry == ("not held", lock, place):
            self.left = self.left[-1]
            return True
        self.waits = entry
        return entry[:3] == ("deed", lock, place) and entry[5] == what_of(self.left)

    def _go_on(self):
        """Pass what goes on at once."""
        while self.left != () and self.left[0] in ("take", "free"):
            stands = self.left[1] in self.hearing.standing
            if stands != (self.left[0] == "take"):
                return
            self.left = self.left[2]


def what_of(program):
    """What the deed with which a PROGRAM begins does."""
    return ("put", program[3]) if program[0] == "put" else ("get",)


def behind(program, answer):
    """What is left of a PROGRAM behind the answer of the deed with which it begins."""
    if answer[0] != "done":
        return program[-1]
    if program[0] == "get":
        for told, case in program[3]:
            if told == answer[4]:
                return case
    return program[-2]
