"""A hand: it does deeds to a table, one by one, and goes back and forth among them."""

from reelcut.backs import back_of
from reelcut.deeds import deed_done
from reelcut.errors import NoOrder


def copy_of(table):
    return ([list(track) for track in table[0]], list(table[1]))


class Hand:
    def __init__(self, table, reels):
        self.held = copy_of(table)
        self.reels = dict(reels)
        self.done = []
        self.undone = []

    def keep(self, deed):
        # Told ahead of all that is kept, since each of the two may refuse.
        back = back_of(self.held, deed, self.reels)
        self.held = deed_done(self.held, deed, self.reels)
        self.done.append((deed, back))
        return self.table()

    def do(self, deed):
        told = self.keep(deed)
        self.undone = []
        return told

    def undo(self):
        if len(self.done) == 0:
            raise NoOrder("there is no deed to undo")
        last = self.done[-1]
        told = self.held
        for deed in last[1]:
            told = deed_done(told, deed, self.reels)
        self.held = told
        self.done.pop()
        self.undone.append(last[0])
        return self.table()

    def redo(self):
        if len(self.undone) == 0:
            raise NoOrder("there is no deed to do again")
        told = self.keep(self.undone[-1])
        self.undone.pop()
        return told

    def table(self):
        return copy_of(self.held)

    def past(self):
        return [done[0] for done in self.done]

    def ahead(self):
        return list(reversed(self.undone))


def hand_like(hand, reels):
    # A second hand to try a deed with: what becomes of it, the first one stays as it is.
    other = Hand(hand.held, reels)
    other.done = list(hand.done)
    other.undone = list(hand.undone)
    return other
