"""Points 2 and 16 to 18: spans and shares of mixes, and how long a mix may be."""

import inspect
import itertools
import unittest
from fractions import Fraction

from reelcut import mixes
from reelcut.errors import NoPlace, NoRoom
from reelcut.mixes import mix_shares, mix_spans, most_mix
from reelcut.tables import check_room, told_on

MOST = 10**6
LONG = 10**12
NEST = ("nest", "intro", 0, 5)
GAP = ("gap", 5)
ARGUMENTS = {
    "mix_spans": ["track"],
    "mix_shares": ["length", "j"],
    "most_mix": ["track", "moment", "reels"],
}


def clip(start, length, step=1, reel="sea"):
    start = Fraction(start)
    step = Fraction(step)
    return ("clip", reel, (start.numerator, start.denominator), (step.numerator, step.denominator), length)


def mix(length):
    return ("mix", length)


def picture(item, k):
    place = Fraction(*item[2]) + k * Fraction(*item[3])
    return place.numerator // place.denominator


def shows(item, moments, reels):
    return all(0 <= picture(item, k) < reels[item[1]] for k in moments)


def fits(track, place, reels):
    """Point 18, by walking through the moments, of the mix at a place of the list."""
    length = track[place][1]
    ahead, behind = track[place - 1], track[place + 1]
    half, rest = length // 2, length - length // 2
    if not shows(ahead, range(ahead[4], ahead[4] + rest), reels) or not shows(behind, range(-half, 0), reels):
        return False
    if place >= 2 and track[place - 2][0] == "mix":
        half += track[place - 2][1] - track[place - 2][1] // 2
    if place + 2 < len(track) and track[place + 2][0] == "mix":
        rest += track[place + 2][1] // 2
    return half <= ahead[4] and rest <= behind[4]


class TestInterface(unittest.TestCase):
    def test_arguments_bear_their_names(self):
        for name, arguments in ARGUMENTS.items():
            with self.subTest(name=name):
                self.assertEqual(list(inspect.signature(getattr(mixes, name)).parameters), arguments)


class TestSpans(unittest.TestCase):
    def test_no_mix(self):
        for track in ([], [clip(0, 4)], [GAP, clip(0, 4), clip(4, 4), NEST]):
            self.assertEqual(mix_spans(track), [])

    def test_even_and_odd(self):
        for length, span in (
            (1, (10, 10, 11)), (2, (9, 10, 11)), (3, (9, 10, 12)), (4, (8, 10, 12)), (5, (8, 10, 13)), (9, (6, 10, 15)),
            (20, (0, 10, 20)), (19, (1, 10, 20)),
        ):
            with self.subTest(length=length):
                self.assertEqual(mix_spans([clip(20, 10), mix(length), clip(50, 12)]), [span])

    def test_several_in_order(self):
        track = [GAP, clip(20, 4), mix(2), clip(30, 6), mix(5), clip(40, 7), NEST, clip(50, 3), mix(1), clip(60, 2)]
        self.assertEqual(mix_spans(track), [(8, 9, 10), (13, 15, 18), (30, 30, 31)])

    def test_far_away(self):
        track = [("gap", LONG), clip(0, LONG, 0), mix(2 * MOST - 1), clip(0, LONG, 0)]
        self.assertEqual(mix_spans(track), [(2 * LONG - MOST + 1, 2 * LONG, 2 * LONG + MOST)])


class TestShares(unittest.TestCase):
    def test_written_ones(self):
        self.assertEqual(mix_shares(1, 0), ((1, 2), (1, 2)))
        self.assertEqual([mix_shares(2, j) for j in range(2)], [((2, 3), (1, 3)), ((1, 3), (2, 3))])
        self.assertEqual([mix_shares(3, j) for j in range(3)], [((3, 4), (1, 4)), ((1, 2), (1, 2)), ((1, 4), (3, 4))])
        self.assertEqual(mix_shares(9, 1), ((4, 5), (1, 5)))

    def test_first_middle_and_last_moment(self):
        for length in (1, 2, 3, 4, 5, 8, 11, 24, 99, 2 * MOST):
            for j in sorted({0, length // 2, length - 1}):
                ahead = Fraction(length - j, length + 1)
                behind = Fraction(j + 1, length + 1)
                right = ((ahead.numerator, ahead.denominator), (behind.numerator, behind.denominator))
                self.assertEqual(mix_shares(length, j), right)

    def test_both_together_are_one_and_neither_is_nought(self):
        for length in range(1, 30):
            for j in range(length):
                ahead, behind = mix_shares(length, j)
                self.assertEqual(Fraction(*ahead) + Fraction(*behind), 1)
                self.assertTrue(0 < Fraction(*ahead) < 1)
                self.assertEqual(ahead, mix_shares(length, length - 1 - j)[1])

    def test_the_clip_behind_comes_up(self):
        for length in range(2, 20):
            shares = [Fraction(*mix_shares(length, j)[1]) for j in range(length)]
            self.assertEqual(shares, sorted(set(shares)))


class TestTold(unittest.TestCase):
    room = ({"sea": 100, "sky": 100}, {})

    def test_an_odd_one(self):
        track = [clip(20, 4), mix(3), clip(50, 5, 2, "sky")]
        self.assertEqual(told_on(track, 2, self.room), [("sea", 22, (1, 1))])
        self.assertEqual(told_on(track, 3, self.room), [("sea", 23, (3, 4)), ("sky", 48, (1, 4))])
        self.assertEqual(told_on(track, 4, self.room), [("sea", 24, (1, 2)), ("sky", 50, (1, 2))])
        self.assertEqual(told_on(track, 5, self.room), [("sea", 25, (1, 4)), ("sky", 52, (3, 4))])
        self.assertEqual(told_on(track, 6, self.room), [("sky", 54, (1, 1))])

    def test_an_even_one_behind_a_gap(self):
        track = [GAP, clip(20, 4, -1), mix(2), clip(50, 5, Fraction(1, 2))]
        self.assertEqual(told_on(track, 7, self.room), [("sea", 18, (1, 1))])
        self.assertEqual(told_on(track, 8, self.room), [("sea", 17, (2, 3)), ("sea", 49, (1, 3))])
        self.assertEqual(told_on(track, 9, self.room), [("sea", 16, (1, 3)), ("sea", 50, (2, 3))])
        self.assertEqual(told_on(track, 10, self.room), [("sea", 50, (1, 1))])

    def test_one_moment(self):
        track = [clip(20, 4), mix(1), clip(50, 5)]
        self.assertEqual(told_on(track, 3, self.room), [("sea", 23, (1, 1))])
        self.assertEqual(told_on(track, 4, self.room), [("sea", 24, (1, 2)), ("sea", 50, (1, 2))])
        self.assertEqual(told_on(track, 5, self.room), [("sea", 51, (1, 1))])

    def test_every_moment_of_every_length(self):
        ahead = clip(40, 8, Fraction(-3, 2))
        behind = clip(50, 9, Fraction(1, 3), "sky")
        for length in range(1, 17):
            track = [("gap", 3), ahead, mix(length), behind]
            begin = 11 - length // 2
            for moment in range(3, 20):
                j = moment - begin
                first = ("sea", picture(ahead, moment - 3))
                second = ("sky", picture(behind, moment - 11))
                if 0 <= j < length:
                    shares = mix_shares(length, j)
                    right = [first + (shares[0],), second + (shares[1],)]
                else:
                    right = [(first if j < 0 else second) + ((1, 1),)]
                self.assertEqual(told_on(track, moment, self.room), right)

    def test_two_mixes_that_touch(self):
        track = [clip(10, 4), mix(4), clip(30, 4), mix(4), clip(50, 4)]
        told = [[one[1] for one in told_on(track, moment, self.room)] for moment in range(12)]
        self.assertEqual(told[:6], [[10], [11], [12, 28], [13, 29], [14, 30], [15, 31]])
        self.assertEqual(told[6:], [[32, 48], [33, 49], [34, 50], [35, 51], [52], [53]])


class TestMost(unittest.TestCase):
    reels = {"sea": 100, "sky": 10, "long": 10**9}

    def most(self, track, moment, most):
        with self.subTest(track=track, moment=moment):
            self.assertEqual(most_mix(track, moment, self.reels), most)

    def test_clips_too_short(self):
        self.most([clip(50, 3), clip(20, 9)], 3, 7)
        self.most([clip(50, 9), clip(20, 3)], 9, 6)
        self.most([clip(50, 3), clip(20, 3)], 3, 6)
        self.most([clip(50, 3), clip(20, 4)], 3, 7)
        self.most([clip(50, 4), clip(20, 3)], 4, 6)
        self.most([clip(50, 1), clip(20, 1)], 1, 2)
        self.most([clip(50, 1), clip(20, 2)], 1, 3)

    def test_pictures_lacking_behind_the_clip_ahead(self):
        for lacking, most in ((0, 0), (1, 2), (2, 4), (3, 6), (4, 8), (5, 10), (6, 11), (9, 11)):
            self.most([clip(90 - lacking, 10), clip(5, 20)], 10, most)

    def test_pictures_lacking_ahead_of_the_clip_behind(self):
        for start, most in ((0, 1), (1, 3), (2, 5), (3, 7), (4, 9), (9, 19), (10, 20), (11, 20)):
            self.most([clip(50, 10), clip(start, 10)], 10, most)

    def test_none_fits(self):
        self.most([clip(90, 10), clip(0, 10)], 10, 0)
        self.most([clip(90, 10), clip(50, 10)], 10, 0)
        self.most([clip(9, 10, -1), clip(50, 10)], 10, 0)
        self.most([clip(0, 10, 1, "sky"), clip(50, 10)], 10, 0)

    def test_one_moment_takes_nothing_of_the_clip_ahead(self):
        self.most([clip(50, 10), clip(0, 10)], 10, 1)
        self.most([clip(50, 10), clip(99, 10, -1)], 10, 1)

    def test_another_mix_at_the_begin_of_the_clip_ahead(self):
        for length, most in ((1, 9), (2, 9), (3, 7), (4, 7), (8, 3), (9, 1), (10, 1), (11, 0), (14, 0)):
            self.most([clip(40, 5), mix(length), clip(50, 5), clip(20, 30)], 10, most)

    def test_another_mix_at_the_end_of_the_clip_behind(self):
        for length, most in ((1, 10), (2, 8), (3, 8), (4, 6), (8, 2), (9, 2), (10, 0), (11, 0), (12, 0), (15, 0)):
            self.most([clip(50, 30), clip(20, 5), mix(length), clip(40, 6)], 30, most)

    def test_a_mix_at_the_border_itself_does_not_count(self):
        for length in (1, 2, 5, 6, 7):
            self.most([clip(50, 3), mix(length), clip(20, 4)], 3, 7)
            self.most([clip(50, 3), mix(length), clip(20, 9)], 3, 7)

    def test_mixes_farther_away_do_not_count(self):
        self.most([clip(40, 9), mix(18), clip(50, 9), clip(30, 4), clip(20, 9), clip(60, 5), mix(10), clip(30, 9)], 22, 9)

    def test_standing_still_and_the_most_of_the_rooms(self):
        still = clip(5, LONG, 0)
        self.most([still, still], LONG, 2 * MOST)
        self.most([still, clip(MOST, LONG, 1, "long")], LONG, 2 * MOST)
        self.most([still, clip(MOST - 1, LONG, 1, "long")], LONG, 2 * MOST - 1)
        self.most([clip(0, 10**9 - MOST, 1, "long"), still], 10**9 - MOST, 2 * MOST)
        self.most([clip(0, 10**9 - MOST + 1, 1, "long"), still], 10**9 - MOST + 1, 2 * MOST - 2)
        self.most([clip(5, 3, 0), clip(5, 9, 0)], 3, 7)

    def test_behind_gaps_and_nests(self):
        self.most([GAP, NEST, clip(50, 3), clip(20, 4), GAP, NEST], 13, 7)

    def test_no_such_border(self):
        track = [clip(50, 4), clip(20, 4), GAP, clip(20, 4), NEST, clip(20, 4), mix(2), clip(30, 4)]
        self.assertEqual(most_mix(track, 4, self.reels), 8)
        self.assertEqual(most_mix(track, 26, self.reels), 8)
        for moment in list(range(4)) + list(range(5, 26)) + [27, 28, 29, 30, 31, LONG, -1, -4]:
            with self.subTest(moment=moment):
                with self.assertRaises(NoPlace):
                    most_mix(track, moment, self.reels)

    def test_no_border_of_two_clips(self):
        for track in ([], [clip(0, 4)], [NEST], [NEST, NEST], [clip(0, 5), NEST], [NEST, clip(0, 5)], [GAP, clip(0, 5)]):
            for moment in (0, 4, 5, 10):
                with self.subTest(track=track, moment=moment):
                    with self.assertRaises(NoPlace):
                        most_mix(track, moment, self.reels)

    def test_what_is_no_moment(self):
        for thing in (True, None, "1", (1, 1), [1]):
            with self.assertRaises(NoPlace):
                most_mix([clip(50, 1), clip(20, 1)], thing, self.reels)


class TestMostAndRooms(unittest.TestCase):
    """most_mix against a walk through the moments, and check_room against most_mix."""

    def is_let_by(self, track, reels):
        try:
            check_room((reels, {"table": ([track], [])}))
        except NoRoom:
            return False
        return True

    def test_as_walking_tells(self):
        reels = {"sea": 12}
        clips = [clip(*one) for one in ((0, 3), (4, 1), (9, 3), (5, 4, Fraction(1, 2)), (7, 3, -2), (5, 6, 0))]
        for first, second, third in itertools.product(clips, repeat=3):
            self.check_most([first, mix(1), second, third], 1, reels)
            for beside in (1, 2, 3):
                self.check_most([first, mix(1), second, mix(beside), third], 1, reels)
                self.check_most([first, mix(beside), second, mix(1), third], 3, reels)

    def check_most(self, track, place, reels):
        border = sum(item[4] for item in track[:place] if item[0] == "clip")
        most = most_mix(track, border, reels)
        self.assertEqual(most_mix(track[:place] + track[place + 1:], border, reels), most)
        for length in range(1, 16):
            track[place] = mix(length)
            places = [number for number, item in enumerate(track) if item[0] == "mix"]
            with self.subTest(track=track):
                self.assertEqual(fits(track, place, reels), length <= most)
                self.assertEqual(self.is_let_by(track, reels), all(fits(track, number, reels) for number in places))

    def test_just_the_most_and_one_more(self):
        reels = {"sea": 100, "long": 10**9}
        for ahead, behind in (
            (clip(50, 3), clip(20, 9)), (clip(50, 9), clip(20, 3)), (clip(88, 10), clip(20, 20)),
            (clip(50, 10), clip(0, 10)), (clip(90, 10), clip(0, 10)), (clip(5, 4 * MOST, 0), clip(7, 4 * MOST, 0)),
            (clip(0, 3 * MOST, 1, "long"), clip(2 * MOST, 3 * MOST, 1, "long")),
        ):
            most = most_mix([ahead, behind], ahead[4], reels)
            with self.subTest(ahead=ahead, behind=behind):
                self.assertFalse(self.is_let_by([ahead, mix(most + 1), behind], reels))
                if most > 0:
                    self.assertTrue(self.is_let_by([ahead, mix(most), behind], reels))
                    self.assertTrue(self.is_let_by([ahead, mix(1), behind], reels))


class TestNothingIsChanged(unittest.TestCase):
    def test_tracks_and_reels_are_the_same_behind_each_call(self):
        track = [clip(40, 5), mix(3), clip(50, 5), GAP, NEST]
        reels = {"sea": 100, "sky": 3}
        before = (list(track), list(reels.items()))
        mix_spans(track)
        most_mix(track, 5, reels)
        for moment in (0, 4, 10, 100):
            with self.assertRaises(NoPlace):
                most_mix(track, moment, reels)
        self.assertEqual((track, list(reels.items())), before)

    def test_told_spans_are_the_asker_s_own(self):
        track = [clip(40, 5), mix(3), clip(50, 5)]
        told = mix_spans(track)
        told[0] = None
        told.append(1)
        self.assertEqual(mix_spans(track), [(4, 5, 7)])

    def test_told_mixes_are_the_asker_s_own(self):
        track = [clip(40, 5), mix(1), clip(50, 5)]
        room = ({"sea": 100}, {})
        right = [("sea", 45, (1, 2)), ("sea", 50, (1, 2))]
        told = told_on(track, 5, room)
        self.assertEqual(told, right)
        told.append(1)
        told[0] = None
        self.assertEqual(told_on(track, 5, room), right)

    def test_reels_are_not_kept(self):
        reels = {"sea": 55}
        track = [clip(40, 10), clip(20, 10)]
        self.assertEqual(most_mix(track, 10, reels), 10)
        reels["sea"] = 52
        self.assertEqual(most_mix(track, 10, reels), 4)


if __name__ == "__main__":
    unittest.main()
