"""A painter: it tells what the asker's paint tells of a table, and paints anew only what is told otherwise."""

from reelcut.errors import NoRoom
from reelcut.tables import told_at


def new_one(thing):
    # What paint tells may hold lists and dicts; whoever asks gets them as the asker's own.
    if isinstance(thing, list):
        return [new_one(part) for part in thing]
    if isinstance(thing, tuple):
        return tuple([new_one(part) for part in thing])
    if isinstance(thing, dict):
        told = {}
        for key, part in thing.items():
            told[key] = new_one(part)
        return told
    return thing


class Painter:
    def __init__(self, paint):
        self.paint = paint
        self.calls = 0
        self.kept = {}

    def asked(self, room, name, moment):
        if not isinstance(name, str) or name not in room[1]:
            raise NoRoom("there is no such table")
        telling = told_at(room, name, moment)
        moments = self.kept.setdefault(name, {})
        if moment not in moments or moments[moment][0] != telling:
            # A list of its own for paint, so that nothing that paint does to it counts later.
            picture = self.paint(list(telling))
            self.calls = self.calls + 1
            moments[moment] = (telling, new_one(picture))
        return new_one(moments[moment][1])

    def painted(self):
        return self.calls

    def known(self):
        return sum([len(moments) for moments in self.kept.values()])

    def forget(self, name):
        self.kept.pop(name, None)
