"""A desk: it is told rows of text, one at a time, and answers each by a list of texts."""

from reelcut.errors import NoOrder, NoPlace, NoRoom, NoText
from reelcut.hand import Hand, hand_like
from reelcut.lists import written
from reelcut.painter import Painter
from reelcut.tables import MOST_TRACKS, check_room, told_at
from reelcut.texts import read_item, read_words, show_number, show_track, show_words

# By the first word of a row the kinds of the words behind it, but for the ITEM of LAYS and the TIED of a table.
ROWS = {
    "reel": ("name", "count"),
    "table": ("name", "count"),
    "at": ("name",),
    "cut": ("count", "count"),
    "heal": ("count", "count"),
    "unmix": ("count", "count"),
    "open": ("count", "count", "count"),
    "mix": ("count", "count", "count"),
    "close": ("count", "count", "count"),
    "lift": ("count", "count", "count"),
    "lay_in": ("count", "count"),
    "lay_over": ("count", "count"),
    "roll": ("count", "count", "number"),
    "slip": ("count", "count", "number"),
    "slide": ("count", "count", "number"),
    "undo": (),
    "redo": (),
    "show": ("count",),
    "tell": ("count",),
    "paint": ("count",),
    "list": ("count", "rate", "rate"),
}
LAYS = ("lay_in", "lay_over")
ASKS = ("show", "tell", "paint", "list")


def words_of(row):
    words = row.split(" ")
    if words[0] not in LAYS:
        return words
    # An item is shown by several words, and whether it is one is asked later than all else of the row.
    words = row.split(" ", 3)
    if len(words) < 4:
        raise NoOrder("the item is missing")
    return words


def kinds_of(words):
    if words[0] not in ROWS:
        raise NoOrder("there is no such row")
    kinds = ROWS[words[0]]
    if words[0] == "table":
        return kinds + tuple(["count" for tied in words[3:]])
    return kinds


def order_of(row):
    # The row as a tuple, its numbers read; of a deed it is the deed, but for an item, which is still a text.
    if not isinstance(row, str):
        raise NoOrder("a row is a text")
    words = words_of(row)
    kinds = kinds_of(words)
    unread = words[3:] if words[0] in LAYS else []
    try:
        read = read_words(words[1:len(words) - len(unread)], kinds)
    except NoText:
        raise NoOrder("the words of this row are none of a form") from None
    return (words[0],) + read + tuple(unread)


def deed_of(order):
    if order[0] in LAYS:
        return order[:3] + (read_item(order[3]),)
    return order


def shown_telling(telling):
    return [show_words(told) for told in telling]


def track_of(table, number):
    if number >= len(table[0]):
        raise NoPlace("there is no such track")
    return table[0][number]


class Desk:
    def __init__(self):
        self.reels = {}
        self.hands = {}
        self.chosen = None
        self.painter = Painter(shown_telling)

    def tables(self):
        found = {}
        for name, hand in self.hands.items():
            found[name] = hand.table()
        return found

    def put_reel(self, name, many):
        if name in self.reels:
            raise NoRoom("there is a reel of that name")
        reels = dict(self.reels)
        reels[name] = many
        check_room((reels, self.tables()))
        self.reels = reels

    def put_hand(self, name, hand):
        tables = self.tables()
        tables[name] = hand.table()
        check_room((self.reels, tables))
        self.hands[name] = hand

    def put_table(self, name, many, tied):
        if name in self.hands:
            raise NoRoom("there is a table of that name")
        # One track too many is refused like any number of them, more than could ever be laid out.
        tracks = [[] for number in range(min(many, MOST_TRACKS + 1))]
        self.put_hand(name, Hand((tracks, list(tied)), self.reels))

    def go_to(self, name):
        if name not in self.hands:
            raise NoRoom("there is no such table")
        self.chosen = name

    def change(self, order):
        hand = hand_like(self.hands[self.chosen], self.reels)
        if order[0] == "undo":
            hand.undo()
        elif order[0] == "redo":
            hand.redo()
        else:
            hand.do(deed_of(order))
        self.put_hand(self.chosen, hand)

    def answer(self, order):
        room = (self.reels, self.tables())
        if order[0] == "tell":
            return shown_telling(told_at(room, self.chosen, order[1]))
        if order[0] == "paint":
            shown = self.painter.asked(room, self.chosen, order[1])
            return [show_number(self.painter.painted())] + shown
        track = track_of(room[1][self.chosen], order[1])
        if order[0] == "show":
            return [show_track(track)]
        return [show_words((whole, rest) + what) for whole, rest, what in written(track, order[2], order[3])]

    def say(self, row):
        order = order_of(row)
        if order[0] == "reel":
            self.put_reel(order[1], order[2])
        elif order[0] == "table":
            self.put_table(order[1], order[2], order[3:])
        elif order[0] == "at":
            self.go_to(order[1])
        elif self.chosen is None:
            raise NoOrder("the hand is at no table")
        elif order[0] in ASKS:
            return self.answer(order)
        else:
            self.change(order)
        return []
