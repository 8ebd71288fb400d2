"""Points 2, 22 and 23, and what of 19 and 21 belongs to them: roll, slip and slide."""

import inspect
import unittest
from fractions import Fraction

from reelcut import rolls
from reelcut.errors import Mixed, NoPlace, NoRoom, Short
from reelcut.fractions import is_fraction
from reelcut.rolls import rolled
from reelcut.tables import check_room, told_on

MOST = 10**6
LONG = 10**12
REELS = {"sea": 100, "sky": 10, "long": 10**9}
WORDS = ("roll", "slip", "slide")
NEST = ("nest", "inner", 0, 4)
GAP = ("gap", 4)
NO_NUMBERS = (None, True, False, "0", "1", (0, 1), [0], 0.0)


def clip(start, length, step=1, reel="sea"):
    start = Fraction(start)
    step = Fraction(step)
    return ("clip", reel, (start.numerator, start.denominator), (step.numerator, step.denominator), length)


def mix(length):
    return ("mix", length)


def table_of(*tracks):
    return ([list(track) for track in tracks], [])


def room_with(table):
    return (dict(REELS), {"table": table, "inner": ([[clip(0, 9)]], [])})


def is_good(table):
    try:
        check_room(room_with(table))
    except NoRoom:
        return False
    return True


def longer_at_end(item, by):
    return item[:4] + (item[4] + by,)


def later_at_begin(item, by):
    start = Fraction(*item[2]) + by * Fraction(*item[3])
    return item[:2] + ((start.numerator, start.denominator), item[3], item[4] - by)


def by_model(track, places, word, by):
    """What point 22 tells of the clips at these places of the list, whether it can be done or not."""
    track = list(track)
    if word == "slip":
        track[places[0]] = later_at_begin(longer_at_end(track[places[0]], by), by)
    else:
        track[places[0]] = longer_at_end(track[places[0]], by)
        track[places[-1]] = later_at_begin(track[places[-1]], by)
    return track


def most_by_model(track, places, word, sign, top):
    """How far it can be done in one direction, one by one, up to top."""
    for many in range(1, top + 1):
        if not is_good(table_of(by_model(track, places, word, sign * many))):
            return sign * (many - 1)
    return sign * top


class TestInterface(unittest.TestCase):
    def test_arguments_bear_their_names(self):
        self.assertEqual(list(inspect.signature(rolls.rolled).parameters), ["table", "deed", "reels"])


class TestDone(unittest.TestCase):
    def done(self, track, deed, right):
        with self.subTest(track=track, deed=deed):
            told = rolled(table_of(track), deed, REELS)
            self.assertEqual(told, table_of(right))
            self.assertIsInstance(told, tuple)

    def test_roll(self):
        track = [clip(20, 5), clip(50, 6)]
        self.done(track, ("roll", 0, 5, 2), [clip(20, 7), clip(52, 4)])
        self.done(track, ("roll", 0, 5, 5), [clip(20, 10), clip(55, 1)])
        self.done(track, ("roll", 0, 5, -2), [clip(20, 3), clip(48, 8)])
        self.done(track, ("roll", 0, 5, -4), [clip(20, 1), clip(46, 10)])

    def test_roll_goes_by_the_steps(self):
        track = [clip(20, 5, Fraction(1, 2)), clip(9, 6, Fraction(-3, 2), "sky")]
        right = [clip(20, 7, Fraction(1, 2)), clip(6, 4, Fraction(-3, 2), "sky")]
        self.done(track, ("roll", 0, 5, 2), right)
        self.done(right, ("roll", 0, 7, -2), track)
        self.done([clip(20, 5, 2), clip(50, 6, Fraction(1, 3))], ("roll", 0, 5, -1),
                  [clip(20, 4, 2), clip(Fraction(149, 3), 7, Fraction(1, 3))])

    def test_slip(self):
        track = [clip(20, 5, 2)]
        self.done(track, ("slip", 0, 0, 3), [clip(26, 5, 2)])
        self.done(track, ("slip", 0, 4, 3), [clip(26, 5, 2)])
        self.done(track, ("slip", 0, 2, -10), [clip(0, 5, 2)])
        self.done([clip(9, 4, Fraction(-1, 2), "sky")], ("slip", 0, 1, 5), [clip(Fraction(13, 2), 4, Fraction(-1, 2), "sky")])
        self.done([clip(3, 4, 0)], ("slip", 0, 1, MOST), [clip(3, 4, 0)])
        self.done([clip(3, 4, 0)], ("slip", 0, 1, -MOST), [clip(3, 4, 0)])

    def test_slip_beyond_its_own_length(self):
        self.done([clip(0, 3)], ("slip", 0, 0, 97), [clip(97, 3)])
        self.done([clip(97, 3)], ("slip", 0, 0, -97), [clip(0, 3)])

    def test_slide(self):
        track = [clip(20, 5), clip(0, 3, 1, "sky"), clip(50, 6, 2)]
        for moment in (5, 6, 7):
            self.done(track, ("slide", 0, moment, 2), [clip(20, 7), clip(0, 3, 1, "sky"), clip(54, 4, 2)])
            self.done(track, ("slide", 0, moment, -4), [clip(20, 1), clip(0, 3, 1, "sky"), clip(42, 10, 2)])
        self.done(track, ("slide", 0, 5, 5), [clip(20, 10), clip(0, 3, 1, "sky"), clip(60, 1, 2)])

    def test_the_clip_that_begins_at_a_border_is_there(self):
        track = [clip(20, 2), clip(30, 2), clip(40, 2), clip(50, 2)]
        self.done(track, ("slip", 0, 2, 1), [clip(20, 2), clip(31, 2), clip(40, 2), clip(50, 2)])
        self.done(track, ("slip", 0, 1, 1), [clip(21, 2), clip(30, 2), clip(40, 2), clip(50, 2)])
        self.done(track, ("slide", 0, 4, 1), [clip(20, 2), clip(30, 3), clip(40, 2), clip(51, 1)])
        self.done(track, ("slide", 0, 3, 1), [clip(20, 3), clip(30, 2), clip(41, 1), clip(50, 2)])

    def test_by_nought_changes_nothing(self):
        for track in (
            [clip(20, 5), clip(30, 3), clip(50, 6)], [clip(0, 100), clip(0, 100), clip(0, 100)],
            [clip(0, 1, 1, "sky"), clip(0, 1, 1, "sky"), clip(9, 1, 1, "sky")], [clip(99, 1), clip(0, 1), clip(0, 1)],
        ):
            for word in WORDS:
                self.done(track, (word, 0, track[0][4], 0), track)

    def test_all_else_stays(self):
        first = [GAP, NEST, clip(60, 2), clip(61, 2), mix(2), clip(60, 3), GAP, clip(0, 3)]
        own = [NEST, clip(20, 5), clip(30, 3), clip(50, 6), GAP, clip(60, 4), mix(1), clip(60, 4)]
        for number in range(3):
            tracks = [list(first) for k in range(3)]
            tracks[number] = list(own)
            for deed, places in (
                (("roll", number, 9, 2), (1, 2)), (("slip", number, 10, 2), (2,)), (("slide", number, 10, 2), (1, 2, 3)),
            ):
                told = rolled((tracks, [0, 2]), deed, REELS)
                right = [list(track) for track in tracks]
                right[number] = by_model(own, places, deed[0], 2)
                self.assertEqual(told, (right, [0, 2]))

    def test_great_lengths(self):
        track = [("gap", LONG), clip(3, LONG, 0), clip(5, LONG, 0), clip(7, LONG, 0)]
        self.done(track, ("roll", 0, 2 * LONG, MOST),
                  [("gap", LONG), clip(3, LONG + MOST, 0), clip(5, LONG - MOST, 0), clip(7, LONG, 0)])
        self.done(track, ("slide", 0, 3 * LONG - 1, -MOST),
                  [("gap", LONG), clip(3, LONG - MOST, 0), clip(5, LONG, 0), clip(7, LONG + MOST, 0)])


class TestTold(unittest.TestCase):
    """What the track tells behind the deed, moment by moment (22)."""

    track = [GAP, clip(20, 6, Fraction(1, 2)), clip(60, 4, -1), clip(5, 7, Fraction(3, 2)), clip(0, 3)]

    def picture(self, item, k):
        place = Fraction(*item[2]) + k * Fraction(*item[3])
        return [(item[1], place.numerator // place.denominator, (1, 1))]

    def told(self, track):
        return [told_on(track, moment, room_with(table_of(track))) for moment in range(30)]

    def after(self, deed):
        return self.told(rolled(table_of(self.track), deed, REELS)[0][0])

    def test_roll(self):
        left, right = self.track[1:3]
        for by in range(-5, 4):
            told = self.told(self.track)
            for moment in range(4, 14):
                told[moment] = self.picture(left, moment - 4) if moment < 10 + by else self.picture(right, moment - 10)
            self.assertEqual(self.after(("roll", 0, 10, by)), told)

    def test_slip(self):
        for place, begin in ((1, 4), (2, 10), (3, 14)):
            item = self.track[place]
            for by in range(-3, 4):
                told = self.told(self.track)
                for k in range(item[4]):
                    told[begin + k] = self.picture(item, k + by)
                self.assertEqual(self.after(("slip", 0, begin, by)), told)

    def test_slide(self):
        left, middle, right = self.track[1:4]
        for by in range(-3, 7):
            told = self.told(self.track)
            for moment in range(4, 21):
                if moment < 10 + by:
                    told[moment] = self.picture(left, moment - 4)
                elif moment < 14 + by:
                    told[moment] = self.picture(middle, moment - 10 - by)
                else:
                    told[moment] = self.picture(right, moment - 14)
            self.assertEqual(self.after(("slide", 0, 12, by)), told)


class TestShort(unittest.TestCase):
    def short(self, track, deed, most):
        with self.subTest(track=track, deed=deed):
            with self.assertRaises(Short) as taken:
                rolled(table_of(track), deed, REELS)
            self.assertEqual(type(taken.exception), Short)
            self.assertEqual(taken.exception.most, most)

    def up_to(self, track, word, moment, most, beyond):
        """The deed can be done by most, and by the next one and one far beyond it is refused with most."""
        with self.subTest(track=track, word=word, most=most):
            self.assertTrue(is_good(rolled(table_of(track), (word, 0, moment, most), REELS)))
            self.assertTrue(is_good(rolled(table_of(track), (word, 0, moment, most - beyond if most else 0), REELS)))
        for by in (most + beyond, most + 5 * beyond, MOST * beyond):
            self.short(track, (word, 0, moment, by), most)

    def test_roll_by_pictures_of_the_left_clip(self):
        self.up_to([clip(90, 5), clip(20, 30)], "roll", 5, 5, 1)
        self.up_to([clip(95, 5), clip(20, 30)], "roll", 5, 0, 1)
        self.up_to([clip(4, 3, -1), clip(20, 30)], "roll", 3, 2, 1)
        self.up_to([clip(95, 3, Fraction(2, 3)), clip(20, 30)], "roll", 3, 5, 1)

    def test_roll_by_the_length_of_the_right_clip(self):
        self.up_to([clip(20, 5), clip(20, 3)], "roll", 5, 2, 1)
        self.up_to([clip(20, 5), clip(20, 1)], "roll", 5, 0, 1)
        self.up_to([clip(20, 5, 0), clip(20, 9)], "roll", 5, 8, 1)

    def test_roll_by_the_length_of_the_left_clip(self):
        self.up_to([clip(20, 3), clip(20, 3)], "roll", 3, -2, -1)
        self.up_to([clip(20, 1), clip(20, 3)], "roll", 1, 0, -1)

    def test_roll_by_pictures_of_the_right_clip(self):
        self.up_to([clip(20, 30), clip(4, 3)], "roll", 30, -4, -1)
        self.up_to([clip(20, 30), clip(0, 3)], "roll", 30, 0, -1)
        self.up_to([clip(20, 30), clip(4, 3, 2)], "roll", 30, -2, -1)
        self.up_to([clip(20, 30), clip(96, 3, -1)], "roll", 30, -3, -1)
        self.up_to([clip(20, 30), clip(4, 3, 0)], "roll", 30, -29, -1)

    def test_slip(self):
        self.up_to([clip(90, 5)], "slip", 0, 5, 1)
        self.up_to([clip(90, 5)], "slip", 0, -90, -1)
        self.up_to([clip(0, 100)], "slip", 7, 0, 1)
        self.up_to([clip(0, 100)], "slip", 7, 0, -1)
        self.up_to([clip(8, 3, -2, "sky")], "slip", 0, 2, 1)
        self.up_to([clip(8, 3, -2, "sky")], "slip", 0, 0, -1)
        self.up_to([clip(8, 3, Fraction(-1, 2), "sky")], "slip", 0, -3, -1)
        self.up_to([clip(8, 3, Fraction(-1, 2), "sky")], "slip", 0, 14, 1)
        self.up_to([clip(5, 1, 100)], "slip", 0, 0, 1)

    def test_slide_by_the_clips_beside(self):
        middle = clip(0, 100)
        self.up_to([clip(90, 5), middle, clip(20, 30)], "slide", 5, 5, 1)
        self.up_to([clip(20, 5), middle, clip(20, 3)], "slide", 104, 2, 1)
        self.up_to([clip(20, 3), middle, clip(20, 3)], "slide", 3, -2, -1)
        self.up_to([clip(20, 30), middle, clip(4, 3)], "slide", 50, -4, -1)
        self.up_to([clip(95, 5), middle, clip(0, 1)], "slide", 5, 0, 1)
        self.up_to([clip(95, 1), middle, clip(0, 1)], "slide", 1, 0, -1)

    def test_about_the_most_of_all(self):
        still = clip(5, LONG, 0)
        moving = clip(MOST - 1, 9, 1, "long")
        self.short([still, moving], ("roll", 0, LONG, -MOST), -(MOST - 1))
        self.short([clip(10**9 - MOST, 1, 1, "long"), still], ("roll", 0, 1, MOST), MOST - 1)
        self.short([still, clip(5, MOST, 0)], ("roll", 0, LONG, MOST), MOST - 1)
        self.short([clip(5, MOST, 0), still], ("roll", 0, MOST, -MOST), -(MOST - 1))
        self.short([moving], ("slip", 0, 0, -MOST), -(MOST - 1))
        for track, moment in (([still, clip(MOST, 9, 1, "long")], LONG), ([clip(5, MOST + 1, 0), still], MOST + 1)):
            self.assertTrue(is_good(rolled(table_of(track), ("roll", 0, moment, -MOST), REELS)))

    def test_as_walking_tells(self):
        clips = [clip(*one) for one in (
            (2, 3, 1, "sky"), (0, 10, 1, "sky"), (9, 1, -1, "sky"), (7, 4, Fraction(-1, 2), "sky"), (1, 2, 3, "sky"), (4, 5, 0, "sky"),
        )]
        for first in clips:
            for second in clips:
                track = [first, second]
                self.check_walk(track, (0, 1), "roll", first[4])
                self.check_walk(track, (1,), "slip", first[4])
                self.check_walk([first, clip(0, 2), second], (0, 1, 2), "slide", first[4])

    def check_walk(self, track, places, word, moment):
        for sign in (1, -1):
            most = most_by_model(track, places, word, sign, 25)
            for many in range(26):
                by = sign * many
                if many <= abs(most):
                    with self.subTest(track=track, word=word, by=by):
                        told = rolled(table_of(track), (word, 0, moment, by), REELS)
                        self.assertEqual(told, table_of(by_model(track, places, word, by)))
                        self.assertTrue(all(is_fraction(item[2]) for item in told[0][0]))
                else:
                    self.short(track, (word, 0, moment, by), most)


class TestNoPlace(unittest.TestCase):
    track = [clip(20, 5), clip(30, 4), clip(50, 6), GAP, clip(60, 4), NEST, clip(70, 3)]

    def no_place(self, track, deed, tied=()):
        with self.subTest(track=track, deed=deed):
            with self.assertRaises(NoPlace) as taken:
                rolled(([list(track), []], list(tied)), deed, REELS)
            self.assertEqual(type(taken.exception), NoPlace)

    def test_the_same_ones_can_be_done(self):
        for word in WORDS:
            rolled(table_of(self.track), (word, 0, 5, 1), REELS)

    def test_no_such_track(self):
        for word in WORDS:
            for number in (-1, -2, 2, 3, LONG) + NO_NUMBERS:
                self.no_place(self.track, (word, number, 5, 1))
            self.no_place(self.track, (word, 1, 5, 1))

    def test_no_moment(self):
        for word in WORDS:
            for moment in (-1, -5, -LONG) + NO_NUMBERS:
                self.no_place(self.track, (word, 0, moment, 1))
        self.no_place([clip(20, 1), clip(30, 1), clip(40, 2)], ("roll", 0, True, 0))
        self.no_place([clip(20, 1), clip(30, 1), clip(40, 2)], ("slide", 0, True, 0))

    def test_no_by(self):
        for word in WORDS:
            for by in (MOST + 1, -MOST - 1, LONG, -LONG) + NO_NUMBERS:
                self.no_place(self.track, (word, 0, 5, by))
                self.no_place([clip(3, LONG, 0)] * 3, (word, 0, LONG, by))
            for by in (MOST, -MOST):
                rolled(table_of([clip(3, LONG, 0)] * 3), (word, 0, LONG, by), REELS)

    def test_roll_at_no_border_of_two_clips(self):
        for moment in (0, 1, 4, 6, 8, 10, 14, 15, 17, 19, 20, 23, 25, 27, 28, 30, 31, LONG):
            for by in (0, 1, -1):
                self.no_place(self.track, ("roll", 0, moment, by))
        for track in ([], [clip(20, 4)], [NEST, NEST], [clip(20, 4), NEST], [NEST, clip(20, 4)], [GAP, clip(20, 4)]):
            for moment in (0, 4, 8):
                self.no_place(track, ("roll", 0, moment, 0))

    def test_slip_of_no_clip(self):
        for moment in (15, 16, 18, 23, 26, 30, 31, LONG):
            self.no_place(self.track, ("slip", 0, moment, 1))
        for moment in (0, LONG):
            self.no_place([], ("slip", 0, moment, 0))
            self.no_place([NEST], ("slip", 0, moment, 0))
            self.no_place([GAP, NEST], ("slip", 0, moment, 0))

    def test_slide_of_no_clip_between_two(self):
        for moment in (0, 4, 9, 14, 15, 18, 19, 22, 23, 26, 27, 29, 30, LONG):
            self.no_place(self.track, ("slide", 0, moment, 1))
        for track in (
            [clip(20, 4)], [clip(20, 4), NEST, clip(20, 4)], [clip(20, 4), clip(20, 4)], [NEST, clip(20, 4), NEST],
            [NEST, clip(20, 4), clip(20, 4)], [clip(20, 4), clip(20, 4), NEST], [GAP, clip(20, 4), clip(20, 4)],
        ):
            for moment in (0, 4):
                self.no_place(track, ("slide", 0, moment, 0))


class TestMixed(unittest.TestCase):
    def refused(self, kind, track, deed):
        with self.subTest(track=track, deed=deed):
            with self.assertRaises(kind) as taken:
                rolled(table_of(track), deed, REELS)
            self.assertEqual(type(taken.exception), kind)

    def track_with_mix(self, border):
        track = [clip(start, 4) for start in (20, 30, 40, 50, 60)]
        track.insert(border, mix(2))
        self.assertTrue(is_good(table_of(track)))
        return track

    def test_each_border(self):
        # The borders 1 to 4 lie at 4, 8, 12, 16; each deed is done beside the border at 8.
        for word, touched in (("roll", (1, 2, 3)), ("slip", (2, 3)), ("slide", (1, 2, 3, 4))):
            for border in (1, 2, 3, 4):
                track = self.track_with_mix(border)
                for by in (0, 1, -1):
                    if border in touched:
                        self.refused(Mixed, track, (word, 0, 8, by))
                    else:
                        self.assertTrue(is_good(rolled(table_of(track), (word, 0, 8, by), REELS)))

    def test_three_clips_alone(self):
        three = [clip(start, 4) for start in (20, 30, 40)]
        for border in (1, 2):
            self.refused(Mixed, three[:border] + [mix(2)] + three[border:], ("slide", 0, 5, 1))
        self.refused(Mixed, [three[0], mix(2), three[1], mix(2), three[2]], ("slide", 0, 5, 1))

    def test_a_mix_on_another_track_does_not_matter(self):
        plain = [clip(start, 4) for start in (20, 30, 40, 50, 60)]
        for word in WORDS:
            told = rolled(table_of(plain, self.track_with_mix(2)), (word, 0, 8, 1), REELS)
            self.assertEqual(told[0][1], self.track_with_mix(2))

    def test_ahead_of_short(self):
        for word in WORDS:
            for by in (MOST, -MOST, 5000):
                self.refused(Mixed, self.track_with_mix(2), (word, 0, 8, by))
                self.refused(Short, [clip(start, 4) for start in (20, 30, 40, 50, 60)], (word, 0, 8, by))

    def test_behind_no_place(self):
        track = self.track_with_mix(2)
        for word in WORDS:
            for number, moment, by in ((1, 8, 1), (-1, 8, 1), (0, -1, 1), (0, 20, 1), (0, 8, MOST + 1), (0, 8, None)):
                self.refused(NoPlace, track, (word, number, moment, by))
        self.refused(NoPlace, track, ("roll", 0, 7, 1))
        self.refused(NoPlace, [clip(20, 4), mix(2), clip(30, 4)], ("slide", 0, 4, 1))
        self.refused(NoPlace, [clip(20, 4), mix(2), clip(30, 4), NEST], ("slide", 0, 4, 1))
        self.refused(NoPlace, [GAP, clip(20, 4), mix(2), clip(30, 4)], ("slide", 0, 4, 1))

    def test_no_place_ahead_of_short(self):
        track = [clip(95, 5), clip(0, 1)]
        self.refused(NoPlace, track, ("roll", 0, 5, MOST + 1))
        self.refused(NoPlace, track, ("roll", 0, 4, 9))
        self.refused(NoPlace, track, ("slide", 0, 5, 9))
        self.refused(Short, track, ("roll", 0, 5, 9))


class TestNothingIsChanged(unittest.TestCase):
    def made(self):
        own = [clip(20, 4), clip(30, 4), clip(40, 4), GAP, clip(50, 4), mix(2), clip(60, 4)]
        return ([[clip(0, 5)], own, [NEST], []], [1, 2])

    def test_the_table_stays(self):
        table = self.made()
        reels = dict(REELS)
        for word in WORDS:
            for deed in ((word, 1, 4, 1), (word, 1, 4, 0), (word, 1, 4, -2)):
                rolled(table, deed, reels)
                self.assertEqual((table, reels), (self.made(), REELS))

    def test_the_table_stays_where_it_is_refused(self):
        table = self.made()
        reels = dict(REELS)
        for word in WORDS:
            for kind, deed in ((NoPlace, (word, 9, 4, 1)), (NoPlace, (word, 2, 1, 1)), (Short, (word, 1, 4, 999))):
                with self.assertRaises(kind):
                    rolled(table, deed, reels)
                self.assertEqual((table, reels), (self.made(), REELS))
        for deed in (("roll", 1, 20, 1), ("slip", 1, 20, 1)):
            with self.assertRaises(Mixed):
                rolled(table, deed, reels)
            self.assertEqual((table, reels), (self.made(), REELS))

    def test_the_told_table_has_no_list_of_it(self):
        table = self.made()
        for word in WORDS:
            for by in (0, 1):
                told = rolled(table, (word, 1, 4, by), REELS)
                held = [id(one) for one in [table[0], table[1]] + table[0]]
                for one in [told[0], told[1]] + told[0]:
                    self.assertIsInstance(one, list)
                    self.assertNotIn(id(one), held)
                self.assertEqual(len({id(one) for one in [told[0], told[1]] + told[0]}), 2 + len(told[0]))

    def test_a_told_table_that_is_changed_changes_nothing(self):
        table = self.made()
        for word in WORDS:
            right = rolled(table, (word, 1, 4, 1), REELS)
            told = rolled(table, (word, 1, 4, 1), REELS)
            for track in told[0]:
                track.append(GAP)
            told[0].append([])
            told[1].append(3)
            self.assertEqual(table, self.made())
            self.assertEqual(rolled(table, (word, 1, 4, 1), REELS), right)

    def test_a_table_that_is_changed_behind_the_call_changes_no_told_one(self):
        for word in WORDS:
            table = self.made()
            told = rolled(table, (word, 1, 4, 1), REELS)
            for track in table[0]:
                track.clear()
            table[1].clear()
            self.assertEqual(told, rolled(self.made(), (word, 1, 4, 1), REELS))


if __name__ == "__main__":
    unittest.main()
