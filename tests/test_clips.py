"""Points 2 and 5 to 9: names, clips, their parts and rooms."""

import inspect
import sys
import unittest
from fractions import Fraction

from reelcut import clips
from reelcut.clips import check_clip, clip_part, goes_on, head_room, is_name, picture_at, tail_room
from reelcut.errors import NoClip
from reelcut.fractions import is_fraction

MOST = 10**6
GREAT = 10**60 - 1
NO_TEXT = (None, True, 1, 0, 1.5, b"reel", ["reel"], ("reel",), {"reel": 1}, {"reel"}, object(), str)
NO_FRACTION = ((2, 2), (0, 2), (4, 6), (1, 0), (1, -2), (True, 1), (1, True), (1,), (1, 2, 3), (), [0, 1])
NO_FRACTION = NO_FRACTION + (0, 1, True, None, "0", "0/1", 0.5, Fraction(1, 2), ("0", "1"))
STEPS = tuple(Fraction(top, bottom) for top in range(-5, 6) for bottom in (1, 2, 3, 7))
STARTS = tuple(Fraction(top, bottom) for top in (0, 1, 5, 11, 37, 40, 79, 80) for bottom in (1, 2, 4, 5))
ARGUMENTS = {
    "is_name": ["thing"],
    "check_clip": ["item", "reels"],
    "picture_at": ["clip", "k"],
    "head_room": ["clip", "reels"],
    "tail_room": ["clip", "reels"],
    "clip_part": ["clip", "low", "high"],
    "goes_on": ["one", "other"],
}


def pair(number):
    return (Fraction(number).numerator, Fraction(number).denominator)


def clip_of(start, step, length, reel="reel"):
    return ("clip", reel, pair(start), pair(step), length)


def shown(start, step, k):
    place = Fraction(start) + k * Fraction(step)
    return place.numerator // place.denominator


def room_by_walking(start, step, many, moments):
    room = 0
    for k in moments:
        if not 0 <= shown(start, step, k) < many:
            return room
        room += 1
    return room


class TooLong(Exception):
    pass


def within_rows(most, work):
    """What work() tells, or TooLong where it runs more than so many rows of code."""
    count = 0

    def trace(frame, event, arg):
        nonlocal count
        count += 1
        if count > most:
            raise TooLong()
        return trace

    before = sys.gettrace()
    sys.settrace(trace)
    try:
        return work()
    finally:
        sys.settrace(before)


class TestInterface(unittest.TestCase):
    def test_arguments_bear_their_names(self):
        for name, arguments in ARGUMENTS.items():
            with self.subTest(name=name):
                self.assertEqual(list(inspect.signature(getattr(clips, name)).parameters), arguments)


class TestNames(unittest.TestCase):
    def test_names(self):
        for name in ("a", "z", "m", "reel", "abcdefg", "abcdefgh", "zzzzzzzz"):
            self.assertIs(is_name(name), True)
        for letter in "abcdefghijklmnopqrstuvwxyz":
            self.assertIs(is_name(letter), True)

    def test_wrong_lengths(self):
        for text in ("", "abcdefghi", "a" * 100):
            self.assertIs(is_name(text), False)

    def test_wrong_letters(self):
        texts = ["A", "reeL", "Reel", "1", "reel1", " ", "a b", " a", "a ", "a\n", "\n", "a_b", "a-b", "`", "{", "\0"]
        texts = texts + ["\u00e9", "re\u00e9l", "\u00df", "\u0430", "\u03b1", "\uff41", "\u00aa", "\u0131"]
        for text in texts:
            with self.subTest(text=text):
                self.assertIs(is_name(text), False)

    def test_no_text(self):
        for thing in NO_TEXT:
            with self.subTest(thing=thing):
                self.assertIs(is_name(thing), False)

    def test_a_list_of_letters_is_no_name(self):
        self.assertIs(is_name(["a", "b"]), False)
        self.assertIs(is_name(("a", "b")), False)


class TestPictures(unittest.TestCase):
    def test_written_ones(self):
        moments = range(5)
        for step, pictures in (
            (1, [10, 11, 12, 13, 14]),
            (Fraction(1, 2), [10, 10, 11, 11, 12]),
            (2, [10, 12, 14, 16, 18]),
            (-1, [10, 9, 8, 7, 6]),
            (0, [10, 10, 10, 10, 10]),
            (Fraction(-1, 2), [10, 9, 9, 8, 8]),
            (Fraction(2, 3), [10, 10, 11, 12, 12]),
        ):
            with self.subTest(step=step):
                self.assertEqual([picture_at(clip_of(10, step, 5), k) for k in moments], pictures)

    def test_ahead_of_the_begin_and_behind_the_end(self):
        clip = clip_of(Fraction(1, 2), Fraction(1, 2), 3)
        self.assertEqual([picture_at(clip, k) for k in range(-4, 0)], [-2, -1, -1, 0])
        self.assertEqual([picture_at(clip, k) for k in (3, 4, 5, 100)], [2, 2, 3, 50])

    def test_all_moments(self):
        for start in STARTS:
            for step in STEPS:
                for k in (-101, -7, -2, -1, 0, 1, 2, 3, 8, 99):
                    self.assertEqual(picture_at(clip_of(start, step, 4), k), shown(start, step, k))

    def test_great_numbers(self):
        clip = clip_of(Fraction(1, GREAT), Fraction(-1, GREAT), 1)
        self.assertEqual([picture_at(clip, k) for k in (0, 1, 2, GREAT + 1, GREAT + 2)], [0, 0, -1, -1, -2])
        self.assertEqual(picture_at(clip_of(0, 1, 1), GREAT), GREAT)
        self.assertEqual(picture_at(clip_of(0, 1, 1), -GREAT), -GREAT)


class TestCheck(unittest.TestCase):
    reels = {"reel": 10, "one": 1, "abcdefgh": 10**9}

    def refused(self, item, reels=None):
        with self.subTest(item=item):
            with self.assertRaises(NoClip):
                check_clip(item, self.reels if reels is None else reels)

    def taken(self, item):
        with self.subTest(item=item):
            self.assertIsNone(check_clip(item, self.reels))

    def test_first_and_last_picture(self):
        for start, step, length in (
            (0, 1, 10), (9, -1, 10), (0, Fraction(1, 2), 20), (Fraction(19, 2), Fraction(-1, 2), 20), (0, 9, 2),
            (9, -9, 2), (0, 0, 10**9), (9, 0, 10**9), (Fraction(99, 10), 0, 5), (0, 10**40, 1), (9, -(10**40), 1),
        ):
            self.taken(clip_of(start, step, length))
        self.taken(clip_of(0, 0, 1, "one"))
        self.taken(clip_of(0, 1, 1, "one"))
        self.taken(clip_of(0, 1, 10**9, "abcdefgh"))

    def test_one_picture_beyond(self):
        for start, step, length in (
            (0, 1, 11), (1, 1, 10), (-1, 1, 10), (10, -1, 10), (9, -1, 11), (10, 0, 1), (-1, 0, 1), (-1, 1, 1),
            (10, -1, 1), (0, Fraction(1, 2), 21), (Fraction(19, 2), Fraction(-1, 2), 21), (0, 10, 2), (9, -10, 2),
            (Fraction(-1, GREAT), 0, 1), (Fraction(1, GREAT), Fraction(-2, GREAT), 2),
        ):
            self.refused(clip_of(start, step, length))
        self.refused(clip_of(0, 1, 2, "one"))
        self.refused(clip_of(0, 1, 10**9 + 1, "abcdefgh"))

    def test_it_refuses_just_what_the_reel_has_not(self):
        for start in STARTS:
            for step in STEPS:
                for length in (1, 2, 5):
                    item = clip_of(start, step, length)
                    if all(0 <= shown(start, step, k) < 10 for k in range(length)):
                        self.taken(item)
                    else:
                        self.refused(item)

    def test_no_such_reel(self):
        self.refused(clip_of(0, 1, 1, "other"))
        self.refused(clip_of(0, 1, 1), {})
        self.refused(clip_of(0, 1, 1), {"ree": 10, "reels": 10})

    def test_the_word(self):
        for word in ("Clip", "clips", "", "nest", "gap", "clip ", None, 1, True, ["clip"], ("clip",)):
            self.refused((word, "reel", (0, 1), (1, 1), 1))

    def test_the_name(self):
        for name in NO_TEXT + ("", "Reel", "reel1", "abcdefghi", "re el"):
            self.refused(("clip", name, (0, 1), (1, 1), 1))

    def test_a_reel_under_what_is_no_name(self):
        for name in ("", "Reel", "abcdefghi", 1, None, ("reel",)):
            self.refused(("clip", name, (0, 1), (1, 1), 1), {name: 10})

    def test_start_and_step(self):
        for thing in NO_FRACTION:
            self.refused(("clip", "reel", thing, (1, 1), 1))
            self.refused(("clip", "reel", (0, 1), thing, 1))

    def test_the_length(self):
        for length in (0, -1, -GREAT, True, False, None, "1", (1, 1), [1], 1.0):
            self.refused(("clip", "reel", (0, 1), (0, 1), length))

    def test_the_tuple(self):
        whole = clip_of(0, 1, 1)
        self.taken(whole)
        self.refused(list(whole))
        self.refused(whole[:-1])
        self.refused(whole[1:])
        self.refused(whole + (1,))
        self.refused(whole + (None,))
        self.refused(whole + whole)
        self.refused(dict(enumerate(whole)))
        for thing in ((), (whole,), None, "clip", "clips", 5, True, [], {}, ("gap", 1), ("mix", 1), ("nest", "reel", 0, 1)):
            self.refused(thing)

    def test_it_is_told_at_once(self):
        reels = {"reel": 10**9}
        within_rows(500, lambda: check_clip(clip_of(0, 1, 10**9), reels))
        within_rows(500, lambda: check_clip(clip_of(0, 0, GREAT), reels))


class TestParts(unittest.TestCase):
    def test_written_ones(self):
        clip = clip_of(3, Fraction(3, 2), 6)
        self.assertEqual(clip_part(clip, 0, 6), clip)
        self.assertEqual(clip_part(clip, 0, 1), ("clip", "reel", (3, 1), (3, 2), 1))
        self.assertEqual(clip_part(clip, 1, 4), ("clip", "reel", (9, 2), (3, 2), 3))
        self.assertEqual(clip_part(clip, 2, 6), ("clip", "reel", (6, 1), (3, 2), 4))
        self.assertEqual(clip_part(clip, 5, 6), ("clip", "reel", (21, 2), (3, 2), 1))
        self.assertEqual(clip_part(clip_of(9, -1, 4, "a"), 1, 3), ("clip", "a", (8, 1), (-1, 1), 2))

    def test_a_part_shows_what_the_clip_shows(self):
        for start in STARTS[::3]:
            for step in STEPS:
                clip = clip_of(start, step, 5)
                for low in range(5):
                    for high in range(low + 1, 6):
                        part = clip_part(clip, low, high)
                        self.assertTrue(is_fraction(part[2]))
                        self.assertEqual(part, clip_of(start + low * step, step, high - low))
                        for k in range(-2, 7):
                            self.assertEqual(picture_at(part, k), picture_at(clip, low + k))

    def test_a_part_of_a_part(self):
        clip = clip_of(Fraction(1, 3), Fraction(2, 7), 20)
        self.assertEqual(clip_part(clip_part(clip, 4, 18), 3, 9), clip_part(clip, 7, 13))
        self.assertEqual(clip_part(clip_part(clip, 4, 18), 0, 14), clip_part(clip, 4, 18))


class TestGoesOn(unittest.TestCase):
    def test_parts_that_meet(self):
        for step in STEPS:
            clip = clip_of(Fraction(7, 3), step, 6)
            for k in range(1, 6):
                self.assertIs(goes_on(clip_part(clip, 0, k), clip_part(clip, k, 6)), True)

    def test_the_other_way_round(self):
        for step in STEPS:
            clip = clip_of(Fraction(7, 3), step, 6)
            for k in range(1, 6):
                self.assertIs(goes_on(clip_part(clip, k, 6), clip_part(clip, 0, k)), step == 0)

    def test_parts_that_do_not_meet(self):
        clip = clip_of(0, 1, 9)
        self.assertIs(goes_on(clip_part(clip, 0, 3), clip_part(clip, 4, 9)), False)
        self.assertIs(goes_on(clip_part(clip, 0, 3), clip_part(clip, 2, 9)), False)
        self.assertIs(goes_on(clip, clip), False)

    def test_another_reel_step_or_start(self):
        one = clip_of(0, Fraction(1, 2), 4)
        self.assertIs(goes_on(one, clip_of(2, Fraction(1, 2), 1)), True)
        self.assertIs(goes_on(one, clip_of(2, Fraction(1, 2), 1, "other")), False)
        self.assertIs(goes_on(one, clip_of(2, Fraction(1, 3), 1)), False)
        self.assertIs(goes_on(one, clip_of(2, Fraction(-1, 2), 1)), False)
        self.assertIs(goes_on(one, clip_of(Fraction(5, 2), Fraction(1, 2), 1)), False)
        self.assertIs(goes_on(one, clip_of(Fraction(3, 2), Fraction(1, 2), 1)), False)

    def test_the_same_picture_is_not_enough(self):
        self.assertIs(goes_on(clip_of(0, Fraction(1, 2), 4), clip_of(Fraction(7, 3), Fraction(1, 2), 4)), False)

    def test_standing_still_goes_on_in_itself(self):
        clip = clip_of(Fraction(5, 2), 0, 3)
        self.assertIs(goes_on(clip, clip), True)


class TestRooms(unittest.TestCase):
    def rooms(self, start, step, length, many):
        clip = clip_of(start, step, length)
        return (head_room(clip, {"reel": many}), tail_room(clip, {"reel": many}))

    def test_none(self):
        self.assertEqual(self.rooms(0, 1, 10, 10), (0, 0))
        self.assertEqual(self.rooms(9, -1, 10, 10), (0, 0))
        self.assertEqual(self.rooms(0, Fraction(1, 2), 20, 10), (0, 0))
        self.assertEqual(self.rooms(5, 100, 1, 10), (0, 0))
        self.assertEqual(self.rooms(5, -100, 1, 10), (0, 0))

    def test_some(self):
        self.assertEqual(self.rooms(3, 1, 2, 10), (3, 5))
        self.assertEqual(self.rooms(3, -1, 2, 10), (6, 2))
        self.assertEqual(self.rooms(3, 2, 2, 10), (1, 2))
        self.assertEqual(self.rooms(3, Fraction(1, 2), 2, 10), (6, 12))
        self.assertEqual(self.rooms(3, Fraction(-1, 2), 2, 10), (13, 5))
        self.assertEqual(self.rooms(Fraction(1, 2), Fraction(1, 2), 1, 2), (1, 2))

    def test_as_walking_tells(self):
        for start in STARTS:
            for step in STEPS:
                if step == 0:
                    continue
                for length in (1, 2, 7):
                    for many in (1, 2, 40, 41, 81):
                        with self.subTest(start=start, step=step, length=length, many=many):
                            head = room_by_walking(start, step, many, range(-1, -2000, -1))
                            tail = room_by_walking(start, step, many, range(length, 2000))
                            self.assertEqual(self.rooms(start, step, length, many), (head, tail))

    def test_standing_still(self):
        for start in (0, 4, Fraction(19, 2), 9):
            for length in (1, 10**9):
                self.assertEqual(self.rooms(start, 0, length, 10), (MOST, MOST))

    def test_about_the_most(self):
        for many in (MOST - 1, MOST, MOST + 1, MOST + 2, 10**9):
            least = min(many - 1, MOST)
            self.assertEqual(self.rooms(0, 1, 1, many), (0, least))
            self.assertEqual(self.rooms(many - 1, 1, 1, many), (least, 0))
            self.assertEqual(self.rooms(0, -1, 1, many), (least, 0))
            self.assertEqual(self.rooms(many - 1, -1, 1, many), (0, least))
        self.assertEqual(self.rooms(5 * 10**8, 1, 1, 10**9), (MOST, MOST))
        self.assertEqual(self.rooms(0, Fraction(1, MOST), 1, 1), (0, MOST - 1))
        self.assertEqual(self.rooms(0, Fraction(1, MOST + 1), 1, 1), (0, MOST))
        self.assertEqual(self.rooms(0, Fraction(1, MOST + 2), 1, 1), (0, MOST))

    def test_a_hair_beside_the_border(self):
        hair = Fraction(1, GREAT)
        self.assertEqual(self.rooms(3, 1, 1, 10), (3, 6))
        self.assertEqual(self.rooms(3 - hair, 1, 1, 10), (2, 7))
        self.assertEqual(self.rooms(3 + hair, 1, 1, 10), (3, 6))
        self.assertEqual(self.rooms(3 - hair, -1, 1, 10), (7, 2))
        self.assertEqual(self.rooms(3, 1 + hair, 1, 10), (2, 6))
        self.assertEqual(self.rooms(3, 1 - hair, 1, 10), (3, 7))

    def test_they_are_told_at_once(self):
        for start, step, length, many in (
            (5 * 10**8, 1, 1, 10**9), (5 * 10**8, -1, 1, 10**9), (5, 0, GREAT, 10**9),
            (Fraction(1, 2), Fraction(1, GREAT), GREAT // 4, 1), (Fraction(1, 2), Fraction(-1, GREAT), GREAT // 4, 1),
        ):
            with self.subTest(start=start, step=step):
                self.assertEqual(within_rows(5000, lambda: self.rooms(start, step, length, many)), (MOST, MOST))

    def test_each_reel_by_its_own_number(self):
        reels = {"long": 100, "short": 6}
        self.assertEqual(tail_room(clip_of(5, 1, 1, "short"), reels), 0)
        self.assertEqual(tail_room(clip_of(5, 1, 1, "long"), reels), 94)


class TestNothingIsChanged(unittest.TestCase):
    def test_reels_are_the_same_behind_each_call(self):
        reels = {"reel": 10, "b": 3, "a": 10**9}
        before = list(reels.items())
        good = clip_of(2, 1, 3)
        check_clip(good, reels)
        for bad in (clip_of(2, 1, 30), clip_of(2, 1, 3, "other"), ("clip", [], (0, 1), (1, 1), 1), None):
            with self.assertRaises(NoClip):
                check_clip(bad, reels)
        for clip in (good, clip_of(2, 0, 3), clip_of(2, -1, 3), clip_of(0, 1, 3, "a")):
            head_room(clip, reels)
            tail_room(clip, reels)
        self.assertEqual(list(reels.items()), before)

    def test_a_list_that_is_refused_is_not_changed(self):
        item = ["clip", "reel", (0, 1), (1, 1), 1]
        before = list(item)
        with self.assertRaises(NoClip):
            check_clip(item, {"reel": 10})
        self.assertEqual(item, before)

    def test_reels_are_not_kept(self):
        reels = {"reel": 10}
        clip = clip_of(0, 1, 10)
        check_clip(clip, reels)
        self.assertEqual(tail_room(clip, reels), 0)
        reels["reel"] = 12
        self.assertEqual(tail_room(clip, reels), 2)
        reels["reel"] = 9
        with self.assertRaises(NoClip):
            check_clip(clip, reels)


if __name__ == "__main__":
    unittest.main()
