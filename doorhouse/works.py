"""Works: steps that are done to a thing one behind the other, all of them or none (DOC.md, 6.5)."""

from doorhouse.errors import Cannot
from doorhouse.store import MORE


class Work:
    """A work that began, of the thing of this kind and number."""

    def __init__(self, name, kind, number, steps):
        self.name = name
        self.kind = kind
        self.number = number
        self.steps = steps
        # How many of the steps stand done.
        self.stands = 0
        self.undoing = False
        self.ended = False

    def more(self, field, by):
        """Tell the deeds of one step."""
        return ((MORE, self.kind, self.number, field, by),)

    def undo_step(self, stock):
        """Undo the last of the steps that stand."""
        field, by = self.steps[self.stands - 1]
        stock.done(self.more(field, -by))
        self.stands -= 1
        self.ended = self.stands == 0

    def do_step(self, stock):
        """Do the next step, or turn to undoing where it can't be done; tell whether it was done."""
        field, by = self.steps[self.stands]
        try:
            stock.done(self.more(field, by))
        except Cannot:
            self.undoing = True
            self.ended = self.stands == 0
            return False
        self.stands += 1
        self.ended = self.stands == len(self.steps)
        return True

    def word(self):
        """Tell how far it is."""
        if self.ended:
            return "undone" if self.undoing else "done"
        if self.undoing:
            return "undoes"
        return "goes" if self.stands > 0 else "waits"


def is_held(queue, kind, number):
    """Tell whether one of these works holds the thing of this kind and number."""
    return any([not work.ended and (work.kind, work.number) == (kind, number) for work in queue])


def do_steps(queue, stock, many):
    """Do up to so many steps of the works that aren't ended, the first one first; tell how many were done."""
    steps = 0
    for work in queue:
        while not work.ended and steps < many:
            if work.undoing:
                work.undo_step(stock)
                steps += 1
            elif work.do_step(stock):
                steps += 1
    return steps
