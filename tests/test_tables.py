"""Points 2 and 13 to 15: what tracks and tables tell, and which rooms are none."""

import copy
import inspect
import unittest
from fractions import Fraction

from reelcut import tables
from reelcut.errors import NoRoom
from reelcut.tables import check_room, told_at, told_on

LONG = 10**12
REELS = {"sea": 100, "sky": 10, "long": 10**9}
ARGUMENTS = {
    "told_on": ["track", "moment", "room"],
    "told_at": ["room", "name", "moment"],
    "check_room": ["room"],
}
NO_NAMES = ("", "A", "Sea", "sea1", "abcdefghi", "a b", " ", "\u00e9", 1, None, True, (), ("a",))
NO_NUMBERS = (True, False, None, "1", (1, 1), [1], 1.0)


def clip(start, length, step=1, reel="sea"):
    start = Fraction(start)
    step = Fraction(step)
    return ("clip", reel, (start.numerator, start.denominator), (step.numerator, step.denominator), length)


def gap(length):
    return ("gap", length)


def mix(length):
    return ("mix", length)


def nest(table, start, length):
    return ("nest", table, start, length)


def one(reel, picture):
    return [(reel, picture, (1, 1))]


def room_of(**found):
    """A room with a table of each name and these tracks, none tied."""
    return (dict(REELS), {name: (list(tracks), []) for name, tracks in found.items()})


def with_track(*track):
    return room_of(other=[[clip(0, 5)]], table=[[clip(0, 5)], list(track)])


def chain(many, last=()):
    """So many tables, each nested in the one ahead of it."""
    names = "abcdefghij"[:many]
    found = {name: ([[nest(names[k + 1], 0, 3)]], []) for k, name in enumerate(names[:-1])}
    found[names[-1]] = ([list(last)], [])
    return (dict(REELS), found)


def told_by_model(room, name, moment):
    for track in room[1][name][0]:
        told = track_by_model(room, track, moment)
        if told:
            return told
    return []


def track_by_model(room, track, moment):
    begin = 0
    for place, item in enumerate(track):
        if item[0] == "mix":
            j = moment - begin + item[1] // 2
            if 0 <= j < item[1]:
                shares = (Fraction(item[1] - j, item[1] + 1), Fraction(j + 1, item[1] + 1))
                ahead, behind = track[place - 1], track[place + 1]
                return [shown(ahead, moment - begin + ahead[4], shares[0]), shown(behind, moment - begin, shares[1])]
        else:
            begin += item[-1]
    begin = 0
    for item in track:
        if item[0] != "mix":
            if begin <= moment < begin + item[-1]:
                if item[0] == "clip":
                    return [shown(item, moment - begin, Fraction(1))]
                return told_by_model(room, item[1], item[2] + moment - begin) if item[0] == "nest" else []
            begin += item[-1]
    return []


def shown(item, k, share):
    place = Fraction(*item[2]) + k * Fraction(*item[3])
    return (item[1], place.numerator // place.denominator, (share.numerator, share.denominator))


class TestInterface(unittest.TestCase):
    def test_arguments_bear_their_names(self):
        for name, arguments in ARGUMENTS.items():
            with self.subTest(name=name):
                self.assertEqual(list(inspect.signature(getattr(tables, name)).parameters), arguments)


class TestToldOn(unittest.TestCase):
    room = room_of(
        inner=[[gap(2), clip(30, 3)]],
        two=[[gap(1), clip(10, 1)], [clip(20, 3)]],
        empty=[[], []],
        mixed=[[clip(20, 4), mix(2), clip(50, 4)]],
    )

    def tells(self, track, told):
        for moment, right in enumerate(told):
            with self.subTest(track=track, moment=moment):
                self.assertEqual(told_on(track, moment, self.room), right)

    def test_nothing(self):
        self.tells([], [[], [], []])
        self.assertEqual(told_on([], LONG, self.room), [])

    def test_a_clip_and_behind_its_end(self):
        self.tells([clip(7, 3)], [one("sea", 7), one("sea", 8), one("sea", 9), [], []])
        self.tells([clip(9, 3, -2, "sky")], [one("sky", 9), one("sky", 7), one("sky", 5), []])
        self.tells([clip(7, 3, Fraction(1, 2))], [one("sea", 7), one("sea", 7), one("sea", 8), []])
        self.tells([clip(Fraction(7, 2), 2, 0)], [one("sea", 3), one("sea", 3), []])

    def test_gaps(self):
        self.tells([gap(2), clip(7, 1), gap(1), clip(3, 1)], [[], [], one("sea", 7), [], one("sea", 3), [], []])

    def test_a_nest(self):
        self.tells([nest("inner", 0, 6)], [[], [], one("sea", 30), one("sea", 31), one("sea", 32), [], []])
        self.tells([nest("inner", 3, 9), clip(1, 1)], [one("sea", 31), one("sea", 32)] + [[]] * 7 + [one("sea", 1), []])
        self.tells([gap(1), nest("inner", 1, 2)], [[], [], one("sea", 30), [], []])
        self.tells([nest("empty", 0, 2), clip(1, 1)], [[], [], one("sea", 1), []])
        self.tells([nest("inner", LONG, 2)], [[], [], []])

    def test_a_nest_of_several_tracks(self):
        self.tells([nest("two", 0, 4)], [one("sea", 20), one("sea", 10), one("sea", 22), [], []])

    def test_a_nest_in_the_span_of_its_mix(self):
        told = [("sea", 23, (2, 3)), ("sea", 49, (1, 3))]
        self.tells([nest("mixed", 2, 2), nest("mixed", 3, 1)], [one("sea", 22), told, told, []])

    def test_the_same_table_twice(self):
        self.tells([nest("inner", 2, 1), nest("inner", 4, 1), nest("inner", 2, 1)], [one("sea", k) for k in (30, 32, 30)])

    def test_mixes(self):
        track = [clip(20, 4), mix(2), clip(50, 2), gap(1), clip(60, 1)]
        mixed = [[("sea", 23, (2, 3)), ("sea", 49, (1, 3))], [("sea", 24, (1, 3)), ("sea", 50, (2, 3))]]
        self.tells(track, [one("sea", 20), one("sea", 21), one("sea", 22)] + mixed + [one("sea", 51), [], one("sea", 60), []])

    def test_great_lengths(self):
        track = [gap(LONG), clip(0, 10**9, 1, "long"), nest("inner", 0, LONG)]
        self.assertEqual(told_on(track, LONG - 1, self.room), [])
        self.assertEqual(told_on(track, LONG, self.room), one("long", 0))
        self.assertEqual(told_on(track, LONG + 10**9 - 1, self.room), one("long", 10**9 - 1))
        self.assertEqual(told_on(track, LONG + 10**9 + 2, self.room), one("sea", 30))
        self.assertEqual(told_on(track, 2 * LONG + 10**9, self.room), [])


class TestToldAt(unittest.TestCase):
    def tells(self, room, name, told):
        for moment, right in enumerate(told):
            with self.subTest(name=name, moment=moment):
                self.assertEqual(told_at(room, name, moment), right)

    def test_the_topmost_track_first(self):
        room = room_of(table=[[clip(1, 2)], [clip(11, 3)], [clip(21, 4)]])
        self.tells(room, "table", [one("sea", k) for k in (1, 2, 13, 24)] + [[]])

    def test_a_gap_lets_be_seen_what_lies_beneath(self):
        room = room_of(table=[[gap(1), clip(1, 1)], [], [clip(21, 3)]])
        self.tells(room, "table", [one("sea", k) for k in (21, 1, 23)] + [[]])

    def test_a_nest_that_tells_nothing_lets_be_seen_what_lies_beneath(self):
        room = room_of(
            table=[[nest("holes", 0, 6)], [clip(50, 5)]], holes=[[gap(1), clip(1, 1), gap(1), nest("none", 0, 1), clip(2, 1)]],
            none=[[], []],
        )
        self.tells(room, "table", [one("sea", k) for k in (50, 1, 52, 53, 2)] + [[], []])

    def test_a_mix_covers_what_lies_beneath(self):
        room = room_of(table=[[gap(1), clip(20, 2), mix(1), clip(50, 2)], [clip(70, 6)]])
        mixed = [("sea", 22, (1, 2)), ("sea", 50, (1, 2))]
        right = [one("sea", 70), one("sea", 20), one("sea", 21), mixed, one("sea", 51), one("sea", 75), []]
        self.tells(room, "table", right)

    def test_nothing_at_all(self):
        room = room_of(table=[[], []], gaps=[[gap(2), nest("table", 0, 2)]])
        for name in ("table", "gaps"):
            self.tells(room, name, [[]] * 6)
            self.assertEqual(told_at(room, name, LONG), [])

    def test_six_deep(self):
        room = chain(6, [clip(5, 2), mix(1), clip(30, 2)])
        for name in "abcdef":
            mixed = [("sea", 7, (1, 2)), ("sea", 30, (1, 2))]
            last = [one("sea", 31)] if name == "f" else [[]]
            self.tells(room, name, [one("sea", 5), one("sea", 6), mixed] + last + [[]])

    def test_starts_add_up(self):
        found = {name: [[gap(1), nest(chr(ord(name) + 1), 3, 40)]] for name in "abcde"}
        room = room_of(f=[[clip(0, 100)]], **found)
        # Each table asks the next one two moments later; the fifth one's track ends at 41.
        self.tells(room, "a", [[]] + [one("sea", 10 + k) for k in range(1, 33)] + [[]] * 10)

    def test_a_table_called_as_a_reel(self):
        room = room_of(sea=[[clip(3, 1), nest("sky", 0, 2)]], sky=[[clip(8, 2, 1, "sky")]])
        self.tells(room, "sea", [one("sea", 3), one("sky", 8), one("sky", 9), []])

    def test_as_the_model_tells(self):
        room = room_of(
            low=[[gap(2), clip(40, 5, Fraction(-3, 2)), mix(5), clip(50, 6, Fraction(1, 3)), gap(1), clip(2, 1, 0)], [clip(0, 30)]],
            middle=[[nest("low", 1, 7), gap(3), nest("low", 11, 20)], [gap(9), clip(60, 4), mix(2), clip(7, 3, -1, "sky")]],
            high=[[gap(4), nest("middle", 2, 9), nest("middle", 25, 9)], [nest("low", 0, 30)], [clip(0, 40, 2)]],
        )
        check_room(room)
        for name in ("low", "middle", "high"):
            for moment in range(50):
                with self.subTest(name=name, moment=moment):
                    self.assertEqual(told_at(room, name, moment), told_by_model(room, name, moment))
                    for track in room[1][name][0]:
                        self.assertEqual(told_on(track, moment, room), track_by_model(room, track, moment))


class TestRooms(unittest.TestCase):
    def good(self, room):
        with self.subTest(room=room):
            self.assertIsNone(check_room(room))

    def bad(self, room):
        with self.subTest(room=room):
            with self.assertRaises(NoRoom) as taken:
                check_room(room)
            self.assertEqual(type(taken.exception), NoRoom)

    def test_without_reels_and_tables(self):
        self.good(({}, {}))
        self.good(({"sea": 1}, {}))
        self.good(({}, {"table": ([[]], [])}))
        self.good(({}, {"table": ([[], []], [0, 1])}))

    def test_good_ones(self):
        self.good(with_track())
        self.good(with_track(clip(0, 100), clip(9, 10, -1, "sky"), nest("other", 0, 1), gap(1), nest("other", LONG, LONG)))
        self.good(with_track(gap(LONG), clip(20, 4), mix(3), clip(50, 4), clip(10, 1)))
        self.good(with_track(nest("other", 0, 9), nest("other", 0, 9), gap(1), clip(0, 1)))

    def test_a_table_called_as_a_reel(self):
        self.good(room_of(sea=[[clip(3, 1), nest("sky", 0, 2)]], sky=[[clip(8, 2, 1, "sky")]]))

    def test_numbers_of_pictures(self):
        for many in (1, 2, 10**9 - 1, 10**9):
            self.good(({"sea": many}, {}))
        for many in (0, -1, -(10**9), 10**9 + 1, 10**60 - 1) + NO_NUMBERS:
            self.bad(({"sea": many}, {}))
            self.bad(({"sky": 3, "sea": many}, {"table": ([[clip(0, 1, 1, "sky")]], [])}))
            self.bad(({"sea": many, "sky": 3}, {"table": ([[clip(0, 1)]], [])}))

    def test_names_of_reels(self):
        for name in ("a", "z", "abcdefgh"):
            self.good(({name: 3}, {}))
        for name in NO_NAMES:
            self.bad(({name: 3}, {}))
            self.bad(({"sea": 3, name: 3}, {}))

    def test_names_of_tables(self):
        for name in ("a", "z", "abcdefgh"):
            self.good(({}, {name: ([[]], [])}))
        for name in NO_NAMES:
            self.bad(({}, {name: ([[]], [])}))
            self.bad(({}, {"table": ([[]], []), name: ([[]], [])}))
            self.bad((dict(REELS), {"table": ([[("nest", name, 0, 1)]], []), name: ([[]], [])}))

    def test_how_many_tracks(self):
        for many in range(1, 9):
            self.good(room_of(table=[[clip(0, 1)] for k in range(many)]))
        for many in (0, 9, 10, 60):
            self.bad(room_of(table=[[] for k in range(many)]))
            self.bad(room_of(other=[[]], table=[[clip(0, 1)] for k in range(many)]))

    def test_the_one_form(self):
        first = clip(20, 4)
        second = clip(50, 4)
        other = nest("other", 0, 4)
        for track in (
            [gap(1)], [first, gap(1)], [first, gap(1), gap(2)], [gap(1), gap(2), first], [first, gap(1), gap(1), second],
            [first, gap(1), gap(1), gap(1), second], [gap(0), first], [first, gap(0), second], [first, gap(0)],
            [mix(1)], [mix(1), first], [first, mix(1)], [first, mix(1), other], [other, mix(1), first],
            [other, mix(1), other], [first, mix(1), gap(1), second], [first, gap(1), mix(1), second],
            [first, mix(1), mix(1), second], [gap(1), mix(1), first], [first, mix(2), second, mix(1)],
        ):
            self.bad(with_track(*track))

    def test_the_one_form_is_asked_of_each_track(self):
        for place in range(8):
            tracks = [[clip(0, 1)] for k in range(8)]
            tracks[place].append(gap(1))
            self.bad(room_of(table=tracks))

    def test_clips(self):
        for item in (
            clip(0, 1, 1, "none"), clip(0, 1, 1, "table"), clip(0, 101), clip(100, 1), clip(-1, 1), clip(0, 2, -1),
            clip(0, 11, 1, "sky"), ("clip", "sea", (2, 2), (1, 1), 1), ("clip", "sea", (0, 1), (0, 2), 1),
            ("clip", "sea", 0, 1, 1), ("clip", "sea", (0, 1), (1, 1), 0), ("clip", "sea", (0, 1), (1, 1), True),
            ("clip", "sea", (0, 1), (1, 1)), ("clip",), ("clip", "Sea", (0, 1), (1, 1), 1), ("clip", ["sea"], (0, 1), (1, 1), 1),
            list(clip(0, 1)),
        ):
            self.bad(with_track(item))
            self.bad(with_track(clip(0, 4), gap(1), item, nest("other", 0, 1)))
        self.bad(({}, {"table": ([[clip(0, 1)]], [])}))

    def test_nests(self):
        for item in (
            nest("none", 0, 1), nest("sea", 0, 1), nest("", 0, 1), nest("Other", 0, 1), nest(None, 0, 1), nest(["other"], 0, 1),
            nest("other", -1, 1), nest("other", 0, 0), nest("other", 0, -1), ("nest", "other", 0), ("nest", "other"), ("nest",),
            ("nest", "other", 0, 1, 1), list(nest("other", 0, 1)),
        ):
            self.bad(with_track(item))
            self.bad(with_track(clip(0, 4), item, clip(0, 4)))
        for thing in NO_NUMBERS:
            self.bad(with_track(nest("other", thing, 1)))
            self.bad(with_track(nest("other", 0, thing)))

    def test_gaps_and_mixes(self):
        for word in ("gap", "mix"):
            self.good(with_track(clip(20, 4), (word, 1), clip(50, 4)))
            for length in (0, -1) + NO_NUMBERS:
                self.bad(with_track(clip(20, 4), (word, length), clip(50, 4)))
            for item in ((word,), (word, 1, 1), [word, 1]):
                self.bad(with_track(clip(20, 4), item, clip(50, 4)))

    def test_what_is_no_item(self):
        for item in ((), None, 1, "gap", ("hole", 1), ("hole", "other", 0, 1), ("Nest", "other", 0, 1), ("Clip", "sea", (0, 1), (1, 1), 1), (None, 1), (["gap"], 1), {}, []):
            self.bad(with_track(item))
            self.bad(with_track(clip(20, 4), item, clip(50, 4)))

    def test_nested_in_itself(self):
        self.bad(room_of(a=[[nest("a", 0, 1)]]))
        self.bad(room_of(a=[[clip(0, 1)], [clip(0, 1), nest("a", 5, 1)]]))
        self.bad(room_of(a=[[nest("b", 0, 1)]], b=[[nest("a", 0, 1)]]))
        self.bad(room_of(a=[[nest("b", 0, 1)]], b=[[nest("c", 0, 1)]], c=[[clip(0, 1), nest("a", 0, 1)]]))
        self.bad(room_of(a=[[clip(0, 1)]], b=[[nest("a", 0, 1), nest("c", 0, 1)]], c=[[], [nest("b", 0, 1)]]))
        self.bad(room_of(top=[[nest("a", 0, 1)]], a=[[nest("b", 0, 1)]], b=[[nest("b", 0, 1)]]))
        for many in range(2, 7):
            room = chain(many)
            room[1]["abcdef"[many - 1]][0].append([nest("a", 0, 1)])
            self.bad(room)

    def test_how_deep(self):
        for many in range(1, 7):
            self.good(chain(many))
            self.good(chain(many, [clip(0, 5)]))
        for many in range(7, 11):
            self.bad(chain(many))

    def test_how_deep_in_whatever_order_the_tables_stand(self):
        for order in ("fedcba", "dafcbe", "bdface"):
            self.good((dict(REELS), {name: chain(6)[1][name] for name in order}))
        for order in ("gfedcba", "dafgcbe", "bdfgace"):
            self.bad((dict(REELS), {name: chain(7)[1][name] for name in order}))

    def test_the_deepest_nest_counts(self):
        room = chain(6)
        room[1]["a"][0][0].extend([nest("f", 0, 1), nest("c", 0, 1), nest("b", 5, 1)])
        room[1]["other"] = ([[nest("b", 0, 1)], [nest("f", 0, 1)]], [])
        self.good(room)
        for track in ([nest("f", 0, 1), nest("a", 0, 1)], [nest("a", 0, 1), nest("f", 0, 1)]):
            deeper = copy.deepcopy(room)
            deeper[1]["more"] = ([[clip(0, 1)], list(track)], [])
            self.bad(deeper)

    def test_many_tables_side_by_side(self):
        letters = "abcdefghijklmnopqrstuvwxyz"
        found = {letter: ([[]], []) for letter in letters}
        found["all"] = ([[nest(letter, 0, 1) for letter in letters]], [])
        self.good((dict(REELS), found))

    def test_mixes_that_do_not_fit(self):
        self.good(with_track(clip(20, 4), mix(8), clip(50, 4)))
        self.bad(with_track(clip(20, 4), mix(9), clip(50, 4)))
        self.good(with_track(clip(94, 5), mix(2), clip(50, 4)))
        self.bad(with_track(clip(94, 5), mix(3), clip(50, 4)))
        self.good(with_track(clip(20, 4), mix(3), clip(1, 4)))
        self.bad(with_track(clip(20, 4), mix(4), clip(1, 4)))
        self.bad(with_track(clip(90, 10), mix(1), clip(50, 4)))

    def test_mixes_that_meet_in_a_clip(self):
        for first, second in ((4, 6), (4, 7), (3, 6), (3, 7), (1, 8), (9, 1), (10, 1)):
            self.good(with_track(clip(20, 9), mix(first), clip(50, 5), mix(second), clip(30, 9)))
        for first, second in ((5, 6), (4, 8), (3, 8), (1, 10), (9, 2), (11, 1)):
            self.bad(with_track(clip(20, 9), mix(first), clip(50, 5), mix(second), clip(30, 9)))

    def test_tied_numbers(self):
        tracks = [[], [], []]
        for tied in ([], [0], [1], [2], [0, 1], [0, 2], [1, 2], [0, 1, 2]):
            self.good(({}, {"table": (tracks, tied)}))
        for tied in (
            [1, 0], [0, 2, 1], [2, 1, 0], [0, 0], [1, 1], [0, 1, 1], [0, 0, 2], [3], [0, 3], [0, 1, 2, 3], [-1], [-1, 0], [9],
            [True], [False], [0, True], [None], ["0"], [0.0], [[0]], [(0, 1)], (0, 1), (), None, 0, "", "0", {}, {0: True},
        ):
            self.bad(({}, {"table": (tracks, tied)}))
        self.bad(({}, {"table": ([[]], [1])}))

    def test_tied_is_asked_of_each_table(self):
        self.bad(({}, {"a": ([[]], [0]), "b": ([[]], [1]), "c": ([[]], [])}))

    def test_what_is_no_table(self):
        for table in (None, [], (), ([[]],), ([[]], [], []), [[[]], []], (([],), []), ({}, []), ([()], []), ([None], []), "ab", 5):
            self.bad(({}, {"table": table}))
            self.bad(({}, {"other": ([[]], []), "table": table}))

    def test_what_is_no_room(self):
        for room in (None, (), ({},), ({}, {}, {}), [{}, {}], ([], {}), ({}, []), (None, None), "ab", {}, 5):
            self.bad(room)


class TestNothingIsChanged(unittest.TestCase):
    def made(self):
        room = room_of(
            low=[[gap(2), clip(40, 5), mix(5), clip(50, 6)], []],
            high=[[nest("low", 1, 7), gap(3), nest("low", 11, 20)], [clip(0, 9)]],
        )
        room[1]["high"][1].append(1)
        return room

    def test_a_room_is_the_same_behind_each_call(self):
        room = self.made()
        before = repr(room)
        check_room(room)
        for moment in range(30):
            told_at(room, "high", moment)
            for track in room[1]["low"][0]:
                told_on(track, moment, room)
        self.assertEqual(repr(room), before)

    def test_a_room_that_is_refused_is_the_same(self):
        for spoil in (
            lambda room: room[0].update(sea=0), lambda room: room[1]["high"][1].append(0),
            lambda room: room[1]["low"][0][0].append(gap(0)), lambda room: room[1]["high"][0][1].extend([gap(1), gap(1)]),
            lambda room: room[1]["low"][0][1].append(nest("high", 0, 1)), lambda room: room[1]["low"][0].clear(),
            lambda room: room[1]["low"][0][0].insert(2, mix(1)), lambda room: room[1]["low"][0][1].append(clip(0, 1, 1, "no")),
        ):
            room = self.made()
            spoil(room)
            before = repr(room)
            with self.assertRaises(NoRoom):
                check_room(room)
            self.assertEqual(repr(room), before)

    def test_what_is_told_is_the_asker_s_own(self):
        room = self.made()
        for name in ("low", "high"):
            for moment in range(32):
                told = told_at(room, name, moment)
                right = list(told)
                told.append(None)
                told[0] = ("changed",)
                self.assertEqual(told_at(room, name, moment), right)
                for track in room[1][name][0]:
                    told = told_on(track, moment, room)
                    right = list(told)
                    told.append(None)
                    self.assertEqual(told_on(track, moment, room), right)

    def test_rooms_are_not_kept(self):
        room = room_of(table=[[nest("inner", 0, 3)]], inner=[[clip(7, 3)]])
        self.assertIsNone(check_room(room))
        self.assertEqual(told_at(room, "table", 1), one("sea", 8))
        room[1]["inner"][0][0][0] = clip(60, 3)
        self.assertEqual(told_at(room, "table", 1), one("sea", 61))
        room[0]["sea"] = 50
        with self.assertRaises(NoRoom):
            check_room(room)
        room[0]["sea"] = 63
        self.assertIsNone(check_room(room))


if __name__ == "__main__":
    unittest.main()
