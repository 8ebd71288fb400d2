"""Points 2, 3, 29 and 30: tracks written as lists for another rate, and read back."""

import copy
import inspect
import random
import unittest
from fractions import Fraction

from helper import clip, gap, length_by_model, mix, nest, outcome, pair, places_of, random_track
from reelcut import lists
from reelcut.errors import NoList, NoNumber
from reelcut.lists import holds_all, read_back, written

HUGE = 10**30 - 1
ARGUMENTS = {
    "written": ["track", "rate", "other"], "holds_all": ["track", "rate", "other"], "read_back": ["rows", "rate", "other"],
}
RATES = ((1, 1), (24, 1), (25, 1), (30, 1), (30000, 1001), (24000, 1001), (50, 1), (1, 7), (22, 7), (HUGE, 10**30), (97, 89))
NO_RATES = (
    (0, 1), (-25, 1), (-1, 2), (50, 2), (0, 2), (25, 0), (25, -1), (-25, -1), 25, 0, 25.0, None, True, "25", "25/1", [25, 1], [], (), (25,),
    (25, 1, 1), (True, 1), (25, True), (True, True), (25.0, 1), (25, 1.0), ("25", "1"), (None, 1), ((25, 1), (1, 1)), {25: 1},
)
TRACK = [gap(3), clip(20, 7), mix(4), clip(Fraction(9, 2), 5, Fraction(-1, 3), "sky"), nest(4, 6), nest(10, 2), gap(1), clip(0, 1, 0)]
WHATS = (
    ("gap",), ("clip", "sea", (20, 1), (1, 1)), mix(4), ("clip", "sky", (9, 2), (-1, 3)), ("nest", "inner", 4), ("nest", "inner", 10),
    ("gap",), ("clip", "sea", (0, 1), (0, 1)), ("end",),
)
BORDERS = (0, 3, 10, 10, 15, 21, 23, 24, 25)
ONE = (1, 1)


def row(border, what):
    """A row whose border is told by a fraction of moments, the rates being the same."""
    return (border // 1, pair(border % 1), what)


def rows_by_model(track, rate, other):
    by = Fraction(*other) / Fraction(*rate)
    rows = [row(begin * by, track[place] if track[place][0] == "mix" else track[place][:-1]) for place, begin in places_of(track)]
    return rows + [row(length_by_model(track) * by, ("end",))]


def wrong_by_model(rows, rate, other):
    """The number of the first row that is wrong, or None; all rows have the right form."""
    by = Fraction(*rate) / Fraction(*other)
    kinds = [what[0] for whole, rest, what in rows]
    borders = [(whole + Fraction(*rest)) * by for whole, rest, what in rows]
    for k, kind in enumerate(kinds):
        ahead = kinds[k - 1] if k else None
        if borders[k].denominator != 1 or k == 0 and borders[k] != 0:
            return k
        if k and not (borders[k] == borders[k - 1] if ahead == "mix" else borders[k] > borders[k - 1]):
            return k
        if ahead == "gap" and kind in ("gap", "end") or kind == "mix" and ahead != "clip" or ahead == "mix" and kind != "clip":
            return k
        if ahead == "end":
            return k
    return None if kinds and kinds[-1] == "end" else len(kinds)


class TestInterface(unittest.TestCase):
    def test_arguments_bear_their_names(self):
        for name, arguments in ARGUMENTS.items():
            self.assertEqual(list(inspect.signature(getattr(lists, name)).parameters), arguments)


class Lists(unittest.TestCase):
    def written_so(self, track, rate, other, right):
        with self.subTest(track=track, rate=rate, other=other):
            told = written(track, rate, other)
            self.assertEqual(repr(told), repr(right))
            self.assertEqual(holds_all(track, rate, other), all(rest == (0, 1) for whole, rest, what in right))
            self.assertEqual(repr(read_back(told, rate, other)), repr(track))

    def no_list(self, at, rows, rate=ONE, other=ONE):
        with self.subTest(rows=rows):
            with self.assertRaises(NoList) as caught:
                read_back(rows, rate, other)
            self.assertIs(type(caught.exception), NoList)
            self.assertEqual(repr(caught.exception.at), repr(at))

    def no_number(self, call, *handed):
        with self.subTest(call=call, handed=handed):
            with self.assertRaises(NoNumber) as caught:
                call(*handed)
            self.assertIs(type(caught.exception), NoNumber)


class TestWritten(Lists):
    def test_each_kind_of_item_and_the_end(self):
        right = [(border, (0, 1), what) for border, what in zip(BORDERS, WHATS)]
        self.written_so(TRACK, ONE, ONE, right)
        self.written_so(TRACK, (24, 1), (48, 1), [(2 * border, rest, what) for border, rest, what in right])

    def test_rests(self):
        track = [clip(20, 25), gap(10), nest(3, 1), clip(5, 14), mix(2), clip(40, 1)]
        right = [
            (0, (0, 1), ("clip", "sea", (20, 1), (1, 1))), (24, (0, 1), ("gap",)), (33, (3, 5), ("nest", "inner", 3)),
            (34, (14, 25), ("clip", "sea", (5, 1), (1, 1))), (48, (0, 1), mix(2)), (48, (0, 1), ("clip", "sea", (40, 1), (1, 1))),
            (48, (24, 25), ("end",)),
        ]
        self.written_so(track, (25, 1), (24, 1), right)
        self.written_so([nest(0, 1)], (24, 1), (25, 1), [(0, (0, 1), ("nest", "inner", 0)), (1, (1, 24), ("end",))])
        self.written_so([nest(0, 1)], (30000, 1001), (25, 1), [(0, (0, 1), ("nest", "inner", 0)), (0, (1001, 1200), ("end",))])
        self.written_so([nest(0, 7)], (1, 7), (1, 2), [(0, (0, 1), ("nest", "inner", 0)), (24, (1, 2), ("end",))])

    def test_the_track_without_items(self):
        for rate in RATES:
            for other in RATES:
                self.written_so([], rate, other, [(0, (0, 1), ("end",))])

    def test_great_borders(self):
        track = [gap(HUGE), clip(4, HUGE, 0), mix(3), clip(6, 7, 0), nest(HUGE, HUGE)]
        for rate in RATES:
            for other in RATES:
                self.written_so(track, rate, other, rows_by_model(track, rate, other))
        track = [gap(10**29), clip(4, 1)]
        right = [(0, (0, 1), ("gap",)), (10**29 * 24 // 25, (0, 1), ("clip", "sea", (4, 1), (1, 1))), (10**29 * 24 // 25, (24, 25), ("end",))]
        self.written_so(track, (25, 1), (24, 1), right)

    def test_tracks_at_random(self):
        rng = random.Random(29)
        for _ in range(300):
            track = random_track(rng)
            rate, other = (pair(Fraction(rng.randint(1, 60), rng.randint(1, 12))) for _ in range(2))
            self.written_so(track, rate, other, rows_by_model(track, rate, other))

    def test_what_is_told_is_of_its_kind(self):
        told = written(TRACK, (25, 1), (24, 1))
        self.assertIsInstance(told, list)
        for one in told:
            self.assertIsInstance(one, tuple)
            self.assertIsInstance(one[2], tuple)


class TestHoldsAll(unittest.TestCase):
    def test_all_rests_are_nought(self):
        self.assertIs(holds_all([], (25, 1), (24, 1)), True)
        self.assertIs(holds_all(TRACK, (25, 1), (25, 1)), True)
        self.assertIs(holds_all(TRACK, (25, 1), (50, 1)), True)
        self.assertIs(holds_all([clip(0, 25), nest(0, 50)], (25, 1), (24, 1)), True)
        self.assertIs(holds_all([gap(HUGE * 25), clip(0, 25)], (25, 1), (24, 1)), True)

    def test_one_is_not(self):
        self.assertIs(holds_all([clip(0, 25), nest(0, 49)], (25, 1), (24, 1)), False)
        self.assertIs(holds_all([clip(0, 24), nest(0, 51)], (25, 1), (24, 1)), False)
        self.assertIs(holds_all([gap(1), clip(0, 24), nest(0, 25)], (25, 1), (24, 1)), False)
        self.assertIs(holds_all([clip(0, 25), clip(40, 24), mix(1), clip(60, 1)], (25, 1), (24, 1)), False)
        self.assertIs(holds_all([gap(HUGE * 25), clip(0, 1)], (25, 1), (24, 1)), False)
        self.assertIs(holds_all([nest(0, 1)], (50, 1), (25, 1)), False)


class TestRates(Lists):
    def test_no_rates(self):
        rows = written(TRACK, ONE, ONE)
        for thing in NO_RATES:
            for call, handed in ((written, TRACK), (written, []), (holds_all, TRACK), (holds_all, []), (read_back, rows)):
                self.no_number(call, handed, thing, (25, 1))
                self.no_number(call, handed, (25, 1), thing)
                self.no_number(call, handed, thing, thing)

    def test_no_number_ahead_of_no_list(self):
        for rows in ([], [None], [(0, (0, 1), ("gap",))], [(5, (0, 1), ("end",))]):
            for thing in NO_RATES:
                self.no_number(read_back, rows, thing, ONE)
                self.no_number(read_back, rows, ONE, thing)


class TestReadBack(Lists):
    def test_by_other_rates_it_is_another_track(self):
        rows = written([clip(0, 4), nest(2, 6)], ONE, (2, 1))
        self.assertEqual(read_back(rows, ONE, ONE), [clip(0, 8), nest(2, 12)])
        self.assertEqual(read_back(rows, (2, 1), ONE), [clip(0, 16), nest(2, 24)])
        self.assertEqual(read_back(rows, (3, 1), (4, 1)), [clip(0, 6), nest(2, 9)])

    def test_lengths_and_pictures_are_not_looked_at(self):
        track = [clip(-500, HUGE, 7, "none"), mix(HUGE), clip(10**9, 1, -1, "none"), nest(HUGE, HUGE, "none")]
        self.assertEqual(read_back(written(track, (25, 1), (24, 1)), (25, 1), (24, 1)), track)

    def test_without_an_end(self):
        self.no_list(0, [])
        rows = written(TRACK, ONE, ONE)
        for many in range(len(rows)):
            self.no_list(many, rows[:many])

    def test_behind_the_end(self):
        rows = written(TRACK, ONE, ONE)
        for more in (row(25, ("end",)), row(26, ("end",)), row(26, ("gap",)), row(26, ("nest", "a", 0)), row(25, WHATS[1]), row(26, mix(1)), None, ()):
            self.no_list(9, rows + [more])
            self.no_list(9, rows + [more, more])
            self.no_list(9, rows + [more] + rows)
            self.no_list(1, [row(0, ("end",)), more])
        self.no_list(9, rows + rows)

    def test_no_tuple_of_three(self):
        for wrong in (None, 5, "row", (), [], (0,), (0, (0, 1)), (0, (0, 1), ("gap",), 1), ((0, (0, 1), ("gap",)),), {}, True):
            self.wrong_at_each_place(lambda right: wrong)
        self.wrong_at_each_place(list)
        self.wrong_at_each_place(lambda right: right[:2])
        self.wrong_at_each_place(lambda right: right + (1,))
        self.wrong_at_each_place(lambda right: right[1:] + right[:1])

    def wrong_at_each_place(self, spoil):
        for track in (TRACK, [nest(0, 4)], []):
            rows = written(track, ONE, ONE)
            for at in range(len(rows)):
                self.no_list(at, rows[:at] + [spoil(rows[at])] + rows[at + 1:])

    def test_no_whole_number(self):
        for spoil in (float, str, lambda whole: None, lambda whole: (whole, 1), lambda whole: [whole]):
            self.wrong_at_each_place(lambda right: (spoil(right[0]),) + right[1:])
        self.no_list(0, [(False, (0, 1), ("end",))])
        self.no_list(1, [(0, (0, 1), ("nest", "a", 0)), (True, (0, 1), ("end",))])

    def test_no_fraction_from_nought_on_below_one(self):
        for rest in (0, None, (0, 2), (0, -1), [0, 1], (False, 1), (0, True), (0,), (0, 1, 1), (0.0, 1), "0", (1, 1), (-1, 1), (2, 1), (-1, 2), (3, 2), (2, 4)):
            self.wrong_at_each_place(lambda right: (right[0], rest, right[2]))

    def test_a_rest_that_would_come_to_the_right_border(self):
        for rest in ((1, 1), (2, 1), (-1, 1)):
            self.wrong_at_each_place(lambda right: (right[0] - rest[0], rest, right[2]))
        rate, other = ONE, (1, 2)
        self.assertEqual(read_back([(0, (0, 1), ("nest", "a", 0)), (0, (1, 2), ("end",))], rate, other), [nest(0, 1, "a")])
        self.assertEqual(read_back([(0, (0, 1), ("nest", "a", 0)), (1, (1, 2), ("end",))], rate, other), [nest(0, 3, "a")])
        for whole, rest in ((2, (-1, 2)), (0, (3, 2)), (1, (2, 4)), (-1, (5, 2))):
            self.no_list(1, [(0, (0, 1), ("nest", "a", 0)), (whole, rest, ("end",))], rate, other)

    def test_not_what_is_told(self):
        for what in (
            None, (), "gap", "end", 5, ["gap"], ["end"], ("hole",), (None,), ("",), ("Gap",), ("gap", 1), ("gap", 0), ("end", 1), ("end", "end"), ("mix",),
            ("mix", 0), ("mix", -1), ("mix", True), ("mix", None), ("mix", "1"), ("mix", (1, 1)), ("mix", 1, 1), ["mix", 1], ("clip",), ("clip", "sea"),
            ("clip", "sea", (0, 1)), ("clip", "sea", (0, 1), (1, 1), 1), ("clip", "Sea", (0, 1), (1, 1)), ("clip", "", (0, 1), (1, 1)),
            ("clip", "abcdefghi", (0, 1), (1, 1)), ("clip", None, (0, 1), (1, 1)), ("clip", ["sea"], (0, 1), (1, 1)), ("clip", "sea", 0, (1, 1)),
            ("clip", "sea", (0, 1), 1), ("clip", "sea", (0, 2), (1, 1)), ("clip", "sea", (0, 1), (2, 2)), ("clip", "sea", [0, 1], (1, 1)),
            ("clip", "sea", (0, 1), (True, 1)), ["clip", "sea", (0, 1), (1, 1)], ("nest",), ("nest", "a"), ("nest", "a", 0, 1), ("nest", "A", 0),
            ("nest", "", 0), ("nest", None, 0), ("nest", "a", -1), ("nest", "a", True), ("nest", "a", None), ("nest", "a", "0"), ("nest", "a", (0, 1)),
            ["nest", "a", 0], (("gap",),), (["gap"],), {"gap": 1}, ("clip", "sea", (0, 1), (1, 1), (0, 1)), ("nest", "a", 0, (0, 1)),
        ):
            self.wrong_at_each_place(lambda right: right[:2] + (what,))

    def test_a_border_that_is_no_whole_number(self):
        rows = written(TRACK, ONE, ONE)
        for at in range(len(rows)):
            for rest in ((1, 2), (1, 3), (HUGE, 10**30)):
                self.no_list(at, rows[:at] + [(rows[at][0], rest, rows[at][2])] + rows[at + 1:])
        rows = written(TRACK, ONE, (3, 1))
        for at in range(len(rows)):
            for more in (1, 2):
                self.no_list(at, rows[:at] + [(rows[at][0] + more,) + rows[at][1:]] + rows[at + 1:], ONE, (3, 1))

    def test_the_first_border_is_nought(self):
        for what in WHATS[:2] + WHATS[4:5] + (("end",),):
            for border in (1, -1, HUGE, -HUGE):
                self.no_list(0, [row(border, what), row(2 * HUGE, ("end",))])

    def test_borders_rise(self):
        for at, what in enumerate(WHATS):
            if at not in (0, 3):
                for border in (BORDERS[at - 1], BORDERS[at - 1] - 1, 0, -1, -HUGE):
                    self.wrong_border(at, border)

    def test_behind_a_mix_the_border_is_the_same(self):
        for border in (9, 11, 0, -10, HUGE):
            self.wrong_border(3, border)

    def wrong_border(self, at, border):
        rows = written(TRACK, ONE, ONE)
        self.no_list(at, rows[:at] + [row(border, WHATS[at])] + rows[at + 1:])

    def test_what_may_not_follow(self):
        one, other, end = ("clip", "sea", (0, 1), (1, 1)), ("nest", "a", 0), ("end",)
        for at, whats in (
            (1, [("gap",), ("gap",), one, end]), (1, [("gap",), end]), (2, [one, ("gap",), end]), (2, [other, ("gap",), ("gap",), end]),
            (0, [mix(1), one, end]), (0, [mix(1), mix(1), end]), (1, [other, mix(1), one, end]), (1, [("gap",), mix(1), one, end]),
            (4, [one, mix(1), one, end, one]), (2, [one, mix(1), other, end]), (2, [one, mix(1), ("gap",), one, end]), (2, [one, mix(1), end]),
            (2, [one, mix(1), mix(1), one, end]), (1, [end, end]), (2, [one, end, one, end]),
        ):
            border, rows = 0, []
            for k, what in enumerate(whats):
                border += 0 if k == 0 or whats[k - 1][0] == "mix" else 5
                rows.append(row(border, what))
            self.no_list(at, rows)

    def test_of_two_wrong_rows_the_first(self):
        rows = written(TRACK, ONE, ONE)
        for first in range(len(rows)):
            for second in range(first + 1, len(rows)):
                for wrong in (None, row(-1, ("end",)), (0, (1, 1), ("gap",)), row(Fraction(1, 2), ("gap",))):
                    spoiled = list(rows)
                    spoiled[first] = wrong
                    spoiled[second] = None
                    self.no_list(first, spoiled)
                    self.no_list(first, spoiled[:-1] + [row(25, ("nest", "a", 0))])

    def test_rows_at_random(self):
        rng = random.Random(30)
        whats = (WHATS[1], WHATS[1], ("nest", "a", 3), ("gap",), mix(2), ("end",))
        right = 0
        for _ in range(6000):
            rate, other = rng.choice(((ONE, ONE), (ONE, ONE), (ONE, (2, 1)), ((2, 1), ONE), ((3, 1), (2, 1))))
            border, rows = Fraction(0), []
            for _ in range(rng.randint(0, 5)):
                rows.append(row(border, rng.choice(whats)))
                border += rng.choice((0, 0, Fraction(1, 2), 1, 2, 2, 2, 4, -1))
            if rows and rng.random() < 0.7:
                rows.append(row(border, ("end",)))
            wrong = wrong_by_model(rows, rate, other)
            if wrong is None:
                right += 1
                self.assertEqual(rows_by_model(read_back(rows, rate, other), rate, other), rows)
            else:
                self.assertEqual(outcome(read_back, rows, rate, other), (NoList, {"at": wrong}), (rows, rate, other))
        self.assertGreater(right, 200)


class TestNothingIsChanged(unittest.TestCase):
    def test_what_is_handed_in_stays(self):
        track = list(TRACK)
        rows = written(track, (25, 1), (24, 1))
        holds_all(track, (25, 1), (24, 1))
        self.assertEqual(track, TRACK)
        before = copy.deepcopy(rows)
        read_back(rows, (25, 1), (24, 1))
        outcome(read_back, rows, (25, 1), (25, 1))
        outcome(read_back, rows, (25, 1), (0, 1))
        self.assertEqual(rows, before)
        rate, other = [25, 1], [24, 1]
        for call, handed in ((written, track), (holds_all, track), (read_back, rows)):
            outcome(call, handed, rate, other)
        self.assertEqual((track, rows, rate, other), (TRACK, before, [25, 1], [24, 1]))

    def test_rows_that_are_refused_stay(self):
        rows = [(0, (0, 1), ("nest", "a", 0)), [3, [0, 1], ["gap"]], {"end": []}]
        before = copy.deepcopy(rows)
        self.assertEqual(outcome(read_back, rows, ONE, ONE), (NoList, {"at": 1}))
        self.assertEqual(rows, before)

    def test_what_is_told_is_the_askers_own(self):
        for track in (TRACK, []):
            right = rows_by_model(track, (25, 1), (24, 1))
            told = written(track, (25, 1), (24, 1))
            told[0] = None
            told.append(None)
            self.assertEqual(written(track, (25, 1), (24, 1)), right)
            told = read_back(right, (25, 1), (24, 1))
            told.append(None)
            told[0] = None
            self.assertEqual(read_back(right, (25, 1), (24, 1)), track)
            self.assertEqual(right, rows_by_model(track, (25, 1), (24, 1)))

    def test_what_was_told_stays(self):
        track = list(TRACK)
        told = written(track, (25, 1), (24, 1))
        track.clear()
        self.assertEqual(told, rows_by_model(TRACK, (25, 1), (24, 1)))
        back = read_back(told, (25, 1), (24, 1))
        told.clear()
        self.assertEqual(back, TRACK)


if __name__ == "__main__":
    unittest.main()
