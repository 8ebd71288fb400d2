"""Point 3 over the whole program: rooms with tables nested in one another, deeds done by hands and at a desk."""

import random
import unittest
from fractions import Fraction

from helper import REELS, all_deeds, clip, copied, length_by_model, nest, outcome, pair, places_of, random_room
from reelcut.deeds import deed_done
from reelcut.desk import Desk
from reelcut.errors import CutError, NoOrder, NoRoom
from reelcut.flats import laid_flat, told_flat
from reelcut.hand import Hand
from reelcut.lists import read_back, written
from reelcut.painter import Painter
from reelcut.tables import check_room, told_at, told_on
from reelcut.texts import read_track, show_item, show_track

RATES = ((25, 1), (24, 1), (30000, 1001), (1, 3), (50, 1))
PUSHES = ("lay_in", "open", "close")


def row_of(deed):
    return " ".join([show_item(word) if isinstance(word, tuple) else str(word) for word in deed])


def rows_for(room):
    """The rows by which a desk comes to this room, lower tables being ahead of higher ones."""
    for name, many in room[0].items():
        yield f"reel {name} {many}"
    for name, (tracks, tied) in room[1].items():
        yield " ".join(["table", name, str(len(tracks))] + [str(number) for number in tied])
        yield f"at {name}"
        for number, track in enumerate(tracks):
            items = [(track[place], begin) for place, begin in places_of(track)]
            for item, begin in sorted(items, key=lambda one: one[0][0] == "mix"):
                if item[0] == "mix":
                    yield f"mix {number} {begin} {item[1]}"
                elif item[0] != "gap":
                    yield f"lay_over {number} {begin} {show_item(item)}"


def shown(telling):
    return [f"{reel} {picture} {Fraction(*share)}" for reel, picture, share in telling]


def moments_for(table):
    return range(max(length_by_model(track) for track in table[0]) + 3)


def random_deed(rng, room, name):
    """A deed to the table, more often than not one that can be done."""
    items = [clip(4, 3, 1, "sky"), clip(50, 2, -1), nest(1, 5, rng.choice(sorted(room[1]))), nest(0, 2, "empty")]
    deeds = list(all_deeds(room[1][name], items))
    words = sorted({deed[0] for deed in deeds})
    for word in rng.sample(words, len(words)):
        some = [deed for deed in deeds if deed[0] == word]
        some = rng.sample(some, min(len(some), 60))
        can_be = [deed for deed in some if not isinstance(outcome(deed_done, room[1][name], deed, REELS)[0], type)]
        if rng.random() < 0.1:
            return some[0]
        if can_be:
            return can_be[0]
    return deeds[0]


class Both:
    """The same room by hands, one for each table, and at a desk."""

    def __init__(self, rng):
        self.room = random_room(rng)
        for name, (tracks, tied) in list(self.room[1].items()):
            tied = [number for number in range(len(tracks)) if rng.random() < 0.6]
            self.room[1][name] = (tracks, tied)
        self.hands = {name: Hand(table, REELS) for name, table in self.room[1].items()}
        self.desk = Desk()
        for row in rows_for(self.room):
            assert self.desk.say(row) == []

    def tables(self):
        return {name: copied(table) for name, table in self.room[1].items()}

    def would_be(self, name, table):
        return (dict(self.room[0]), {**self.room[1], name: table})

    def do(self, name, deed):
        """What comes of the deed at the desk; where it is done there, the hand does it, too."""
        self.desk.say(f"at {name}")
        told = outcome(self.desk.say, row_of(deed))
        if told == []:
            self.room[1][name] = self.hands[name].do(deed)
        return told

    def step(self, name, word):
        self.desk.say(f"at {name}")
        self.room[1][name] = self.hands[name].undo() if word == "undo" else self.hands[name].redo()
        return self.desk.say(word)


class TestWhole(unittest.TestCase):
    def check_desk(self, both):
        """The desk shows the very tables that the hands hold."""
        for name, table in both.room[1].items():
            self.assertEqual(both.hands[name].table(), table)
            both.desk.say(f"at {name}")
            for number, track in enumerate(table[0]):
                self.assertEqual(both.desk.say(f"show {number}"), [show_track(track)])

    def check_tellings(self, both, painter, last):
        """told_at, told_flat of the pieces and a painter tell the same, and paint was called where it was due."""
        for name, table in both.room[1].items():
            pieces = outcome(laid_flat, both.room, name)
            self.assertIsInstance(pieces, list)
            for moment in moments_for(table):
                telling = told_at(both.room, name, moment)
                self.assertEqual(told_flat(pieces, moment), telling)
                painted = painter.painted() + (last.get((name, moment)) != telling)
                last[name, moment] = telling
                self.assertEqual(painter.asked(both.room, name, moment), shown(telling))
                self.assertEqual((painter.painted(), painter.known()), (painted, len(last)))
                self.assertIn(sum(Fraction(*share) for reel, picture, share in telling), (0, 1))
                for reel, picture, share in telling:
                    self.assertTrue(0 <= picture < REELS[reel])

    def check_tracks(self, both, rng):
        """Each track is read back from its text, and from its list for another rate."""
        for table in both.room[1].values():
            for track in table[0]:
                self.assertEqual(read_track(show_track(track)), track)
                rate, other = rng.choice(RATES), rng.choice(RATES)
                rows = written(track, rate, other)
                self.assertEqual(read_back(rows, rate, other), track)
                begins = [begin for place, begin in places_of(track)] + [length_by_model(track)]
                by = Fraction(*other) / Fraction(*rate)
                self.assertEqual([whole + Fraction(*rest) for whole, rest, what in rows], [begin * by for begin in begins])

    def check_asked_at_the_desk(self, both, rng, name):
        both.desk.say(f"at {name}")
        for moment in rng.sample(moments_for(both.room[1][name]), 3):
            telling = shown(told_at(both.room, name, moment))
            self.assertEqual(both.desk.say(f"tell {moment}"), telling)
            painted = both.desk.say(f"paint {moment}")
            self.assertEqual(painted[1:], telling)
            self.assertEqual(both.desk.say(f"paint {moment}"), painted)
        rate, other = rng.choice(RATES), rng.choice(RATES)
        for number, track in enumerate(both.room[1][name][0]):
            rows = [(whole, Fraction(*rest), show_item(what)) for whole, rest, what in written(track, rate, other)]
            self.assertEqual(both.desk.say(f"list {number} {Fraction(*rate)} {Fraction(*other)}"), [f"{whole} {rest} {what}" for whole, rest, what in rows])

    def check_deed(self, both, ahead, name, deed):
        """What each changed track tells behind the deed, by the one sentence that is said of it."""
        before, behind = ahead[name], both.room[1][name]
        room = (both.room[0], ahead)
        changed = [deed[1]]
        if deed[0] in PUSHES and deed[1] in before[1]:
            changed = before[1]
        self.assertEqual(behind[1], before[1])
        for number, track in enumerate(before[0]):
            if number not in changed:
                self.assertEqual(behind[0][number], track)
                continue
            own = deed if number == deed[1] or deed[0] != "lay_in" else ("open", number, deed[2], deed[3][-1])
            for moment in range(length_by_model(track) + length_by_model(behind[0][number]) + 2):
                right = told_by_sentence(track, own, moment, room)
                if right is not None:
                    self.assertEqual(told_on(behind[0][number], moment, both.room), right, (track, deed, moment))

    def run_of(self, seed):
        rng = random.Random(seed)
        both = Both(rng)
        painter, last = Painter(shown), {}
        self.check_desk(both)
        self.check_tellings(both, painter, last)
        states, done, refused = [both.tables()], [], set()
        for _ in range(9):
            name = rng.choice(sorted(both.room[1]))
            deed = random_deed(rng, both.room, name)
            right = outcome(deed_done, both.room[1][name], deed, REELS)
            if not isinstance(right[0], type) and outcome(check_room, both.would_be(name, right)) is not None:
                right = (NoRoom, {})
            told = both.do(name, deed)
            if isinstance(right[0], type):
                self.assertEqual(told, right)
                self.assertEqual(both.tables(), states[-1])
                refused.add(right[0])
            else:
                self.assertEqual((told, both.room[1][name]), ([], right))
                self.check_deed(both, states[-1], name, deed)
                states.append(both.tables())
                done.append(name)
            self.assertIsNone(check_room(both.room))
            self.check_desk(both)
            self.check_tellings(both, painter, last)
            self.check_tracks(both, rng)
            self.check_asked_at_the_desk(both, rng, name)
        self.back_and_there_again(both, states, done)
        return done, refused

    def back_and_there_again(self, both, states, done):
        for k in reversed(range(len(done))):
            self.assertEqual(both.step(done[k], "undo"), [])
            self.assertEqual(both.tables(), states[k])
            self.assertIsNone(check_room(both.room))
            self.check_desk(both)
        for k, name in enumerate(done):
            self.assertEqual(both.step(name, "redo"), [])
            self.assertEqual(both.tables(), states[k + 1])
        self.check_desk(both)
        for name, hand in both.hands.items():
            self.assertEqual(len(hand.past()), done.count(name))
            with self.assertRaises(NoOrder):
                hand.redo()

    def test_rooms_at_random(self):
        refused, many = set(), 0
        for seed in range(40):
            with self.subTest(seed=seed):
                done, more = self.run_of(seed)
                refused |= more
                many += len(done)
        self.assertGreater(many, 100)
        self.assertIn(NoRoom, refused)
        self.assertTrue(all(issubclass(kind, CutError) for kind in refused))


def told_by_sentence(track, deed, moment, room):
    """What the track tells at the moment behind the deed, or None where the sentence leaves it to other points."""
    word, first = deed[0], deed[2]
    before = told_on(track, moment, room)
    if word in ("cut", "heal"):
        return before
    if word in ("lay_in", "lay_over", "open"):
        length = deed[3] if word == "open" else deed[3][-1]
        if moment < first or word == "lay_over" and moment >= first + length:
            return before
        if moment >= first + length:
            return told_on(track, moment - length, room)
        return [] if word == "open" else told_on([deed[3]], moment - first, room)
    if word == "close":
        return before if moment < first else told_on(track, moment + deed[3] - first, room)
    if word == "lift":
        return [] if first <= moment < deed[3] else before
    if word == "mix":
        return None if first - deed[3] // 2 <= moment < first + deed[3] - deed[3] // 2 else before
    if word == "unmix":
        length = [track[place][1] for place, begin in places_of(track) if begin == first and track[place][0] == "mix"][0]
        return None if first - length // 2 <= moment < first + length - length // 2 else before
    # roll, slip and slide: as before outside of the clip at the moment and the clips beside it.
    places = [(begin, begin + track[place][-1]) for place, begin in places_of(track) if track[place][0] != "mix"]
    at = [k for k, (begin, end) in enumerate(places) if begin <= first < end][0]
    low, high = places[max(at - 1, 0)][0], places[min(at + 1, len(places) - 1)][1]
    return None if low <= moment < high else before


class TestDeep(unittest.TestCase):
    """Six tables, one within another, of which only the lowest one is changed."""

    names = "abcdef"

    def made(self):
        desk = Desk()
        desk.say("reel sea 100")
        for name in self.names:
            desk.say(f"table {name} 1 0")
        desk.say("at a")
        desk.say("lay_in 0 0 clip sea 10 1 20")
        for below, name in zip(self.names, self.names[1:]):
            desk.say(f"at {name}")
            desk.say(f"lay_in 0 1 nest {below} 2 20")
        return desk

    def test_told_through_all(self):
        desk = self.made()
        self.assertEqual(desk.say("tell 1"), ["sea 16 1"])
        self.assertEqual(desk.say("paint 1"), ["1", "sea 16 1"])
        for row, telling in (
            ("slip 0 0 5", ["sea 21 1"]), ("lift 0 6 7", []), ("lay_over 0 6 clip sea 50 1/2 1", ["sea 50 1"]), ("undo", []), ("undo", ["sea 21 1"]),
            ("open 0 0 1", ["sea 20 1"]), ("cut 0 6", ["sea 20 1"]), ("mix 0 6 1", ["sea 20 1/2"] * 2),
        ):
            desk.say("at a")
            desk.say(row)
            desk.say("at f")
            self.assertEqual(desk.say("tell 1"), telling, row)
            self.assertEqual(desk.say("paint 1")[1:], telling)
        self.assertEqual(desk.say("paint 1")[0], "8")

    def test_laid_flat_by_the_same_room(self):
        room = ({"sea": 100}, {"a": ([[clip(10, 20)]], [0])})
        for below, name in zip(self.names, self.names[1:]):
            room[1][name] = ([[("gap", 1), nest(2, 20, below)]], [0])
        self.assertIsNone(check_room(room))
        pieces = laid_flat(room, "f")
        desk = self.made()
        painter = Painter(shown)
        for moment in range(25):
            right = shown(told_flat(pieces, moment))
            self.assertEqual(desk.say(f"tell {moment}"), right)
            self.assertEqual(painter.asked(room, "f", moment), right)
        self.assertEqual(pieces[1], (14, (("sea", pair(16), (1, 1), (1, 1), (0, 1)),)))


if __name__ == "__main__":
    unittest.main()
