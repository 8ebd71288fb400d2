"""Points 2, 3, 26 and 27: tables laid flat into pieces, and what the pieces tell."""

import copy
import inspect
import itertools
import random
import time
import unittest
from fractions import Fraction

from helper import clip, gap, length_by_model, mix, nest, outcome, pair, places_of, random_room, room_of
from reelcut import flats
from reelcut.errors import TooMuch
from reelcut.flats import laid_flat, told_flat
from reelcut.tables import check_room, told_at

HUGE = 10**30
ARGUMENTS = {"laid_flat": ["room", "name"], "told_flat": ["pieces", "moment"]}
# Told at once: far less than any count of pieces one by one would take, far more than a slow machine needs.
AT_ONCE = 5


def shown(start, step=1, reel="sea", share=1, share_step=0):
    """One part of a piece."""
    return (reel, pair(start), pair(step), pair(share), pair(share_step))


def piece(length, *parts):
    return (length, tuple(parts))


def met_by_model(room, name, moment, path=()):
    """All that the walk meets, each thing by the way to its list and its place there, and the parts that it comes to."""
    met = []
    for number, track in enumerate(room[1][name][0]):
        place, k = place_by_model(track, moment)
        met.append((path, number, place))
        if place is None or track[place][0] == "gap":
            continue
        if track[place][0] == "nest":
            inner, parts = met_by_model(room, track[place][1], track[place][2] + k, path + ((number, place),))
            met += inner
            if parts:
                return met, parts
        else:
            return met, parts_by_model(track, place, k)
    return met, ()


def place_by_model(track, moment):
    for place, begin in places_of(track):
        first = begin - track[place][-1] // 2
        if track[place][0] == "mix" and first <= moment < first + track[place][1]:
            return place, moment - first
    for place, begin in places_of(track):
        if track[place][0] != "mix" and begin <= moment < begin + track[place][-1]:
            return place, moment - begin
    return None, 0


def parts_by_model(track, place, k):
    item = track[place]
    if item[0] == "clip":
        return (shown(Fraction(*item[2]) + k * Fraction(*item[3]), Fraction(*item[3]), item[1]),)
    ahead, behind, many = track[place - 1], track[place + 1], item[1]
    first = Fraction(*ahead[2]) + (ahead[4] + k - many // 2) * Fraction(*ahead[3])
    second = Fraction(*behind[2]) + (k - many // 2) * Fraction(*behind[3])
    return (shown(first, Fraction(*ahead[3]), ahead[1], Fraction(many - k, many + 1), Fraction(-1, many + 1)),
            shown(second, Fraction(*behind[3]), behind[1], Fraction(k + 1, many + 1), Fraction(1, many + 1)))


def pieces_by_model(room, name):
    end = max(length_by_model(track) for track in room[1][name][0])
    walks = [met_by_model(room, name, moment) for moment in range(end)]
    runs = [list(run) for met, run in itertools.groupby(walks, key=lambda walk: walk[0])]
    return [(len(run), run[0][1]) for run in runs]


def clips_of_one(many):
    """So many clips of one moment each, none of which goes on from the one ahead."""
    return [clip(7 * k % 100, 1) for k in range(many)]


class TestInterface(unittest.TestCase):
    def test_arguments_bear_their_names(self):
        for name, arguments in ARGUMENTS.items():
            self.assertEqual(list(inspect.signature(getattr(flats, name)).parameters), arguments)


class Flats(unittest.TestCase):
    def flat(self, room, *right, name="table"):
        """Laid flat into just these pieces, which tell what the table tells."""
        with self.subTest(room=room):
            self.assertIsNone(check_room(room))
            pieces = laid_flat(room, name)
            self.assertEqual(pieces, list(right))
            self.assertIsInstance(pieces, list)
            for one in pieces:
                self.assertIsInstance(one, tuple)
                self.assertIsInstance(one[1], tuple)
            self.tells_the_same(room, name, pieces)

    def tells_the_same(self, room, name, pieces):
        end = sum(length for length, parts in pieces)
        if end < 1000:
            for moment in range(end + 5):
                self.assertEqual(told_flat(pieces, moment), told_at(room, name, moment), (room, moment))
        begin = 0
        for length, parts in pieces:
            for moment in (begin, begin + 1, begin + length - 1, begin + length):
                self.assertEqual(told_flat(pieces, moment), told_at(room, name, moment), (room, moment))
            begin += length


class TestOneTrack(Flats):
    def test_nothing(self):
        self.flat(room_of(table=[[]]))
        self.flat(room_of(table=[[], [], []]))

    def test_clips(self):
        self.flat(room_of(table=[[clip(20, 5)]]), piece(5, shown(20)))
        self.flat(room_of(table=[[clip(20, 5, Fraction(-1, 3)), clip(4, 3, 0, "sky")]]),
                  piece(5, shown(20, Fraction(-1, 3))), piece(3, shown(4, 0, "sky")))
        self.flat(room_of(table=[[clip(4, HUGE, 0)]]), piece(HUGE, shown(4, 0)))

    def test_gaps(self):
        self.flat(room_of(table=[[gap(3), clip(20, 5), gap(HUGE), clip(30, 1)]]),
                  piece(3), piece(5, shown(20)), piece(HUGE), piece(1, shown(30)))

    def test_what_would_go_on_stays_two(self):
        self.flat(room_of(table=[[clip(20, 2), clip(22, 3)]]), piece(2, shown(20)), piece(3, shown(22)))
        self.flat(room_of(table=[[clip(20, 2, 0), clip(20, 3, 0)]]), piece(2, shown(20, 0)), piece(3, shown(20, 0)))
        self.flat(room_of(table=[[nest(0, 2), nest(2, 1)]], inner=[[clip(20, 9)]]), piece(2, shown(20)), piece(1, shown(22)))
        self.flat(room_of(table=[[nest(0, 2), nest(2, 1)]], inner=[[]]), piece(2), piece(1))

    def test_mixes(self):
        third, half = Fraction(1, 3), Fraction(1, 2)
        self.flat(room_of(table=[[clip(20, 5), mix(2), clip(3, 6, half, "sky")]]), piece(4, shown(20)),
                  piece(2, shown(24, 1, "sea", 2 * third, -third), shown(Fraction(5, 2), half, "sky", third, third)),
                  piece(5, shown(Fraction(7, 2), half, "sky")))
        self.flat(room_of(table=[[clip(20, 5), mix(1), clip(40, 6)]]), piece(5, shown(20)),
                  piece(1, shown(25, 1, "sea", half, -half), shown(40, 1, "sea", half, half)), piece(5, shown(41)))
        self.flat(room_of(table=[[clip(20, 5), mix(3), clip(40, 6)]]), piece(4, shown(20)),
                  piece(3, shown(24, 1, "sea", Fraction(3, 4), Fraction(-1, 4)), shown(39, 1, "sea", Fraction(1, 4), Fraction(1, 4))),
                  piece(4, shown(42)))

    def test_mixes_that_take_whole_clips(self):
        fifth = Fraction(1, 5)
        self.flat(room_of(table=[[clip(20, 2), mix(4), clip(40, 2)]]),
                  piece(4, shown(20, 1, "sea", 4 * fifth, -fifth), shown(38, 1, "sea", fifth, fifth)))
        room = room_of(table=[[clip(20, 2), mix(4), clip(40, 4), mix(4), clip(60, 2)]])
        self.flat(room, piece(4, shown(20, 1, "sea", 4 * fifth, -fifth), shown(38, 1, "sea", fifth, fifth)),
                  piece(4, shown(42, 1, "sea", 4 * fifth, -fifth), shown(58, 1, "sea", fifth, fifth)))
        room = room_of(table=[[clip(20, 2), mix(3), clip(40, 5), mix(3), clip(60, 2)]])
        self.assertEqual([length for length, parts in laid_flat(room, "table")], [1, 3, 2, 3])

    def test_a_long_mix(self):
        many = 2 * 10**6
        room = room_of(table=[[clip(4, many, 0), mix(many), clip(6, many, 0)]])
        step = Fraction(1, many + 1)
        self.flat(room, piece(10**6, shown(4, 0)), piece(many, shown(4, 0, "sea", many * step, -step), shown(6, 0, "sea", step, step)),
                  piece(10**6, shown(6, 0)))


class TestTracks(Flats):
    def test_what_lies_beneath_is_looked_at_where_nothing_is_told_above(self):
        top = [gap(3), clip(20, 4), gap(5), clip(40, 2)]
        beneath = [clip(60, 2), clip(70, 3), clip(80, 20)]
        self.flat(room_of(table=[top, beneath]), piece(2, shown(60)), piece(1, shown(70)), piece(4, shown(20)),
                  piece(5, shown(82)), piece(2, shown(40)), piece(11, shown(89)))

    def test_borders_beneath_a_clip_are_not_looked_at(self):
        self.flat(room_of(table=[[clip(20, 9)], clips_of_one(9)]), piece(9, shown(20)))
        self.flat(room_of(table=[[clip(20, 9)], [gap(3), clip(40, 3), gap(1), clip(40, 1)]]), piece(9, shown(20)))

    def test_behind_the_end_of_a_track(self):
        self.flat(room_of(table=[[clip(20, 2)], [], [gap(3), clip(40, 3)], [clip(60, 9)]]),
                  piece(2, shown(20)), piece(1, shown(62)), piece(3, shown(40)), piece(3, shown(66)))

    def test_borders_of_gaps_that_let_the_same_be_seen(self):
        self.flat(room_of(table=[[gap(3), nest(0, 2), gap(2), nest(0, 1)], [clip(20, 12)]], inner=[[]]),
                  piece(3, shown(20)), piece(2, shown(23)), piece(2, shown(25)), piece(1, shown(27)), piece(4, shown(28)))

    def test_two_tracks_that_tell_nothing(self):
        self.flat(room_of(table=[[gap(4), clip(20, 1)], [gap(2), nest(9, 5)]], inner=[[clip(30, 3)]]),
                  piece(2), piece(2), piece(1, shown(20)), piece(2))

    def test_spans_of_mixes_beneath(self):
        half = Fraction(1, 2)
        self.flat(room_of(table=[[gap(5), clip(60, 2)], [clip(20, 4), mix(1), clip(40, 4)]]), piece(4, shown(20)),
                  piece(1, shown(24, 1, "sea", half, -half), shown(40, 1, "sea", half, half)), piece(2, shown(60)),
                  piece(1, shown(43)))

    def test_a_mix_that_is_seen_in_part(self):
        step = Fraction(1, 7)
        room = room_of(table=[[gap(2), clip(60, 1), gap(1), clip(60, 2)], [clip(20, 4), mix(6), clip(40, 4)]])
        self.flat(room, piece(1, shown(20)), piece(1, shown(21, 1, "sea", 6 * step, -step), shown(37, 1, "sea", step, step)),
                  piece(1, shown(60)), piece(1, shown(23, 1, "sea", 4 * step, -step), shown(39, 1, "sea", 3 * step, step)),
                  piece(2, shown(60)), piece(1, shown(26, 1, "sea", step, -step), shown(42, 1, "sea", 6 * step, step)),
                  piece(1, shown(43)))


class TestNests(Flats):
    def test_the_borders_within(self):
        inner = [[clip(20, 3), gap(2), clip(30, 4)], [clip(40, 4)]]
        self.flat(room_of(table=[[nest(1, 9)]], inner=inner),
                  piece(2, shown(21)), piece(1, shown(43)), piece(1), piece(4, shown(30)), piece(1))
        self.flat(room_of(table=[[nest(6, 2)]], inner=inner), piece(2, shown(31)))
        self.flat(room_of(table=[[nest(9, 2)]], inner=inner), piece(2))
        self.flat(room_of(table=[[nest(HUGE, HUGE)]], inner=inner), piece(HUGE))

    def test_a_mix_within(self):
        step = Fraction(1, 5)
        room = room_of(table=[[nest(4, 2), nest(4, 4)]], inner=[[clip(20, 5), mix(4), clip(40, 5)]])
        self.flat(room, piece(2, shown(24, 1, "sea", 3 * step, -step), shown(39, 1, "sea", 2 * step, step)),
                  piece(3, shown(24, 1, "sea", 3 * step, -step), shown(39, 1, "sea", 2 * step, step)), piece(1, shown(42)))

    def test_nests_that_tell_nothing(self):
        inner = [[gap(2), clip(20, 2)], [gap(5), clip(30, 1)]]
        self.flat(room_of(table=[[nest(0, 9)], [clip(60, 3), clip(70, 9)]], inner=inner),
                  piece(2, shown(60)), piece(2, shown(20)), piece(1, shown(71)), piece(1, shown(30)), piece(3, shown(73)),
                  piece(3, shown(76)))

    def test_borders_within_a_nest_that_tells_nothing(self):
        room = room_of(table=[[nest(0, 8)], [clip(20, 8)]], inner=[[gap(2), nest(0, 3, "empty"), nest(0, 1, "empty")]], empty=[[]])
        self.flat(room, piece(2, shown(20)), piece(3, shown(22)), piece(1, shown(25)), piece(2, shown(26)))

    def test_one_table_by_several_ways(self):
        inner = [[clip(20, 2), gap(2), clip(40, 2)]]
        self.flat(room_of(table=[[nest(1, 3), nest(0, 2)], [nest(0, 6), nest(5, 2)]], inner=inner),
                  piece(1, shown(21)), piece(1, shown(21)), piece(1), piece(2, shown(20)), piece(1, shown(41)),
                  piece(1, shown(41)), piece(1))

    def test_a_stretch_within_a_nest_beneath_others(self):
        inner = [[clip(20, HUGE, 0), clip(30, HUGE, 0)]]
        room = room_of(table=[[gap(5), clip(60, 5)], [nest(HUGE - 3, 20)]], inner=inner)
        self.flat(room, piece(3, shown(20, 0)), piece(2, shown(30, 0)), piece(5, shown(60)), piece(10, shown(30, 0)))

    def test_six_deep(self):
        room = room_of(a=[[clip(20, 30)]], b=[[nest(1, 20, "a")]], c=[[gap(1), nest(1, 20, "b")]], d=[[nest(0, 9, "c")]],
                       e=[[gap(2), nest(0, 9, "d")], [clip(50, 7)]], table=[[nest(0, 12, "e")], [clip(70, 14)]])
        self.flat(room, piece(2, shown(50)), piece(1, shown(52)), piece(8, shown(22)), piece(1, shown(81)), piece(2, shown(82)))

    def test_rooms_at_random(self):
        rng = random.Random(26)
        most = 0
        for _ in range(120):
            room = random_room(rng)
            for name in room[1]:
                right = pieces_by_model(room, name)
                if len(right) <= 400:
                    self.flat(room, *right, name=name)
                most = max(most, len(right))
        self.assertGreater(most, 12)


class TestToldFlat(unittest.TestCase):
    pieces = [
        piece(3, shown(Fraction(9, 2), Fraction(-1, 2))), piece(2),
        piece(2, shown(7, 2, "sky", Fraction(2, 3), Fraction(-1, 3)), shown(-3, 1, "sea", Fraction(1, 3), Fraction(1, 3))),
        piece(HUGE, shown(5, Fraction(1, 3))),
    ]

    def test_told(self):
        whole = (1, 1)
        right = [[("sea", 4, whole)], [("sea", 4, whole)], [("sea", 3, whole)], [], [],
                 [("sky", 7, (2, 3)), ("sea", -3, (1, 3))], [("sky", 9, (1, 3)), ("sea", -2, (2, 3))],
                 [("sea", 5, whole)], [("sea", 5, whole)], [("sea", 5, whole)], [("sea", 6, whole)]]
        self.assertEqual([told_flat(self.pieces, moment) for moment in range(11)], right)

    def test_the_last_moment_and_behind_the_end(self):
        self.assertEqual(told_flat(self.pieces, HUGE + 6), [("sea", 5 + (HUGE - 1) // 3, (1, 1))])
        for moment in (HUGE + 7, HUGE + 8, HUGE * HUGE):
            self.assertEqual(told_flat(self.pieces, moment), [])
        for moment in (0, 1, HUGE):
            self.assertEqual(told_flat([], moment), [])


class TestTooMuch(Flats):
    def too_much(self, room, name="table"):
        self.assertIsNone(check_room(room))
        begin = time.monotonic()
        with self.assertRaises(TooMuch) as caught:
            laid_flat(room, name)
        self.assertIs(type(caught.exception), TooMuch)
        self.assertLess(time.monotonic() - begin, AT_ONCE)

    def test_just_400_and_401(self):
        inner = [clips_of_one(50)]
        nests = [nest(0, 50)] * 8
        room = room_of(table=[nests], inner=inner)
        pieces = laid_flat(room, "table")
        self.assertEqual(len(pieces), 400)
        self.tells_the_same(room, "table", pieces)
        self.too_much(room_of(table=[nests + [clip(0, 1)]], inner=inner))
        self.too_much(room_of(table=[nests, [gap(400), clip(0, 1)]], inner=inner))
        self.assertEqual(len(laid_flat(room_of(table=[nests, [gap(300), clip(0, 100)]], inner=inner), "table")), 400)
        self.assertEqual(len(laid_flat(room_of(table=[nests[:7] + [nest(0, 49)] + [clip(0, 1)]], inner=inner), "table")), 400)

    def test_pieces_in_which_nothing_is_told_count_too(self):
        nests = [nest(0, 1, "empty")] * 50
        self.assertEqual(laid_flat(room_of(table=[[nest(0, 50)] * 8], inner=[nests], empty=[[]]), "table"), [piece(1)] * 400)
        self.too_much(room_of(table=[[nest(0, 50)] * 8 + [nest(0, 1, "empty")]], inner=[nests], empty=[[]]))

    def deep(self, lowest):
        """Six deep, of sixty nests each: more pieces than could be counted."""
        tables = {"a": [list(lowest)]}
        length = length_by_model(lowest)
        for below, name in zip("abcde", "bcdef"):
            tables[name] = [[nest(0, length, below)] * 60]
            length *= 60
        return room_of(**tables)

    def test_pieces_that_could_not_be_counted(self):
        for lowest in (clips_of_one(60), [clip(4, HUGE, 0), clip(5, HUGE, 0)], [gap(HUGE), clip(5, 1)]):
            room = self.deep(lowest)
            for name in "cdef":
                self.too_much(room, name)

    def test_a_little_of_very_much(self):
        room = self.deep(clips_of_one(60))
        room[1]["e"] = ([[nest(60**3 + 30, 60, "d"), nest(5, 3, "d")]], [])
        room[1]["table"] = ([[nest(0, 63, "e")], [nest(0, 60**5, "d")]], [])
        room[1]["f"] = ([[clip(0, HUGE, 0)], [nest(0, 60**4, "d")]], [])
        self.flat(room, piece(HUGE, shown(0, 0)), name="f")
        self.assertEqual(len(laid_flat(room, "e")), 63)
        self.tells_the_same(room, "e", laid_flat(room, "e"))
        self.too_much(room)

    def test_much_that_begins_late(self):
        room = self.deep(clips_of_one(60))
        room[1]["f"] = ([[clip(4, HUGE, 0)], [gap(HUGE - 1), nest(0, 60**4, "d")]], [])
        self.too_much(room, "f")

    def test_nests_on_all_tracks(self):
        """Eight tracks each, six deep: a quarter of a million lists are met at each moment."""
        tables = {"a": [[gap(HUGE), clip(5, 1)]] * 8}
        for below, name in zip("abcd", "bcde"):
            tables[name] = [[nest(8 * k, HUGE - 10**6, below)] for k in range(8)]
        top = [[nest(0, 7, "e"), nest(0, 5, "e")] * 29] + [[nest(k, 90, "e")] for k in range(6)]
        room = room_of(table=top + [clips_of_one(60)], **tables)
        begin = time.monotonic()
        pieces = laid_flat(room, "table")
        self.assertLess(time.monotonic() - begin, AT_ONCE)
        self.assertEqual(sum(length for length, parts in pieces), 29 * 12)
        self.assertEqual(told_flat(pieces, 59), [("sea", 7 * 59 % 100, (1, 1))])
        self.assertEqual(pieces[0], piece(1, shown(0)))


class TestNothingIsChanged(unittest.TestCase):
    def made(self):
        return room_of(table=[[nest(0, 9), clip(3, 2)], [clip(20, 5), mix(2), clip(40, 9)]],
                       inner=[[gap(1), clip(60, 2), gap(3), clip(70, 1)]], much=[[nest(0, 1)] * 401])

    def test_the_room_stays(self):
        room = self.made()
        laid_flat(room, "table")
        self.assertEqual(room, self.made())
        self.assertEqual(outcome(laid_flat, room, "much"), (TooMuch, {}))
        self.assertEqual(room, self.made())

    def test_the_pieces_stay(self):
        pieces = laid_flat(self.made(), "table")
        before = copy.deepcopy(pieces)
        for moment in range(20):
            told_flat(pieces, moment).append("more")
            told_flat(pieces, moment).clear()
        self.assertEqual(pieces, before)

    def test_what_is_told_is_the_askers_own(self):
        room = self.made()
        right = laid_flat(self.made(), "table")
        told = laid_flat(room, "table")
        told.clear()
        self.assertEqual(laid_flat(room, "table"), right)
        told = laid_flat(room, "table")
        for table in room[1].values():
            table[0].clear()
        room[1].clear()
        room[0].clear()
        self.assertEqual(told, right)

    def test_a_room_that_is_changed_is_told_as_it_is_then(self):
        room = self.made()
        laid_flat(room, "table")
        room[1]["inner"][0][0].clear()
        self.assertEqual([length for length, parts in laid_flat(room, "table")], [4, 2, 3, 2, 3])


if __name__ == "__main__":
    unittest.main()
