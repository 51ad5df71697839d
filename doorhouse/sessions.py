"""Sessions: who asks by which number, and for how long (DOC.md, 6.2)."""


class Session:
    """A session that was begun, of an asker."""

    def __init__(self, asker, tick):
        self.asker = asker
        # The moment of its last request.
        self.last = tick
        self.ended = False
        # How many tickets it was given: they are numbered from 1 on.
        self.tickets = 0
        # By each ticket that was used: path, values and answer of the post that used it.
        self.used = {}


class Lobby:
    """The sessions of a house, numbered from 1 on."""

    def __init__(self, idle):
        self.idle = idle
        self.begun = []

    def begin(self, asker, tick):
        """Begin a session of this asker; tell its number."""
        self.begun.append(Session(asker, tick))
        return len(self.begun)

    def held(self, number, tick):
        """Tell the session of this number, None where none such holds at this moment."""
        if not 1 <= number <= len(self.begun):
            return None
        session = self.begun[number - 1]
        return None if session.ended or tick - session.last > self.idle else session

    def all_held(self, tick):
        """Tell the rising list of tuples (number, asker) of the sessions that hold at this moment."""
        numbers = [number for number in range(1, len(self.begun) + 1) if self.held(number, tick) is not None]
        return [(number, self.begun[number - 1].asker) for number in numbers]
