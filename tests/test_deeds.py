"""Points 2, 3 and 19 to 23: the twelve deeds, what they tell and what they refuse."""

import inspect
import itertools
import random
import unittest
from fractions import Fraction

from helper import NO_NUMBERS, REELS, all_deeds, clip, copied, gap, going_on, length_by_model, mix, moments_by_model
from helper import nest, outcome, pair, places_of, random_table, room_with, table_of
from reelcut import deeds
from reelcut.deeds import deed_done
from reelcut.errors import Mixed, NoClip, NoPlace, Short
from reelcut.rolls import rolled
from reelcut.tables import check_room, told_on
from reelcut.tracks import one_form

HUGE = 10**40
SKY = clip(2, 3, 1, "sky")
LAID = (clip(40, 2), SKY, nest(1, 4), nest(0, 1, "empty"), clip(5, 3, Fraction(-3, 2)))
NEW_LENGTHS = ("lay_in", "open", "close")
WITHOUT_LENGTH = ("cut", "heal", "unmix")
WITH_STRETCH = ("close", "lift")
WITH_ITEM = ("lay_in", "lay_over")
ROLLS = ("roll", "slip", "slide")
ALL = ("cut", "heal", "lay_in", "open", "close", "lift", "lay_over", "roll", "slip", "slide", "mix", "unmix")


def deed_of(word, number, moment, length=1):
    """A deed of this word, its other entries in order."""
    if word in WITHOUT_LENGTH:
        return (word, number, moment)
    if word in WITH_ITEM:
        return (word, number, moment, clip(40, length))
    return (word, number, moment, moment + length if word in WITH_STRETCH else length)


def changed_by_model(table, deed):
    if deed[0] in NEW_LENGTHS and deed[1] in table[1]:
        return sorted(table[1])
    return [deed[1]]


def stretch_by_model(deed):
    if deed[0] in WITH_STRETCH:
        return (deed[2], deed[3])
    return (deed[2], deed[2] + deed[3][-1]) if deed[0] == "lay_over" else (deed[2], deed[2])


def laid_by_model(deed, number):
    """A sign for each moment that the deed puts in: None for nothing, an item for its own moments."""
    if deed[0] == "open":
        return [None] * deed[3]
    if deed[0] == "lift":
        return [None] * (deed[3] - deed[2])
    if deed[0] in WITH_ITEM:
        return [("laid", deed[3], k) if number == deed[1] else None for k in range(deed[3][-1])]
    return []


def item_of_run(run):
    if run[0] is None:
        return gap(len(run))
    side, item, first = run[0]
    if item[0] == "gap":
        return gap(len(run))
    if item[0] == "nest":
        return nest(item[2] + first, len(run), item[1])
    return item[:2] + (pair(Fraction(*item[2]) + first * Fraction(*item[3])), item[3], len(run))


def track_by_model(track, low, high, laid):
    """The track moment by moment, cut, laid anew and put together again."""
    signs = [(place, track[place], k) for place, k in moments_by_model(track)]
    signs += [None] * (high + 1)
    ahead = [sign and (("ahead", sign[0]), sign[1], sign[2]) for sign in signs[:low]]
    behind = [sign and (("behind", sign[0]), sign[1], sign[2]) for sign in signs[high:]]
    runs = [list(run) for key, run in itertools.groupby(ahead + laid + behind, key=lambda sign: sign and sign[0])]
    some = []
    for last, run in zip([None] + runs, runs):
        some += mix_between(track, last, run)
        some.append(item_of_run(run))
    return one_form(some)


def mix_between(track, last, run):
    """The mix at the border of two runs of moments that were neighbours before, too."""
    if last is None or last[-1] is None or run[0] is None or last[0][0] == "laid" or run[0][0] == "laid":
        return []
    places = (last[0][0][1], run[0][0][1])
    return [track[places[0] + 1]] if places[1] == places[0] + 2 and track[places[0] + 1][0] == "mix" else []


def spans_by_model(track):
    """Of each mix the moments of its span, and its border."""
    return [(range(begin - track[place][1] // 2, begin + track[place][1] - track[place][1] // 2), begin)
            for place, begin in places_of(track) if track[place][0] == "mix"]


def is_mixed_by_model(table, deed):
    low, high = stretch_by_model(deed)
    for number in changed_by_model(table, deed):
        for span, border in spans_by_model(table[0][number]):
            if deed[0] in ("cut", "lay_in", "open"):
                if low in list(span)[1:] or low == border:
                    return True
            elif set(span) & set(range(low, high)) or border in range(low, high + 1):
                return True
    return False


def is_cut_by_model(track, moment):
    signs = moments_by_model(track)
    return 0 < moment < len(signs) and signs[moment - 1][0] == signs[moment][0] and track[signs[moment][0]][0] != "gap"


def border_by_model(track, moment):
    """The places of the two items at a border, or None."""
    signs = moments_by_model(track)
    if not 0 < moment < len(signs) or signs[moment - 1][0] == signs[moment][0]:
        return None
    return (signs[moment - 1][0], signs[moment][0])


def heal_by_model(table, deed):
    track = list(table[0][deed[1]])
    places = border_by_model(track, deed[2])
    if places is None or "gap" in (track[places[0]][0], track[places[1]][0]):
        return (NoPlace, {})
    one, other = track[places[0]], track[places[1]]
    if going_on(one)[:-1] != other[:-1]:
        return (NoPlace, {})
    if places[1] == places[0] + 2:
        return (Mixed, {})
    track[places[0]:places[1] + 1] = [one[:-1] + (one[-1] + other[-1],)]
    return with_track(table, deed[1], track)


def with_track(table, number, track):
    told = copied(table)
    told[0][number] = track
    return told


def is_good(table):
    return outcome(check_room, room_with(table)) is None


def mix_by_model(table, deed):
    track = table[0][deed[1]]
    places = border_by_model(track, deed[2])
    if places is None or places[1] == places[0] + 2 or {track[place][0] for place in places} != {"clip"}:
        return (NoPlace, {})
    tables = [with_track(table, deed[1], track[:places[1]] + [mix(length)] + track[places[1]:])
              for length in range(1, 20)]
    most = [is_good(told) for told in tables].index(False)
    return tables[deed[3] - 1] if deed[3] <= most else (Short, {"most": most})


def unmix_by_model(table, deed):
    track = table[0][deed[1]]
    found = [place for place, begin in places_of(track) if begin == deed[2] and track[place][0] == "mix"]
    if not found:
        return (NoPlace, {})
    return with_track(table, deed[1], track[:found[0]] + track[found[0] + 1:])


def by_model(table, deed):
    """What a deed of sound numbers and items tells, or how it is refused."""
    if deed[0] in ROLLS:
        return outcome(rolled, table, deed, REELS)
    others = {"heal": heal_by_model, "mix": mix_by_model, "unmix": unmix_by_model}
    if deed[0] in others:
        return others[deed[0]](table, deed)
    low, high = stretch_by_model(deed)
    if deed[0] == "cut" and not is_cut_by_model(table[0][deed[1]], low) or deed[0] in WITH_STRETCH and low >= high:
        return (NoPlace, {})
    if is_mixed_by_model(table, deed):
        return (Mixed, {})
    told = copied(table)
    for number in changed_by_model(table, deed):
        told[0][number] = track_by_model(table[0][number], low, high, laid_by_model(deed, number))
    return told


class TestInterface(unittest.TestCase):
    def test_arguments_bear_their_names(self):
        self.assertEqual(list(inspect.signature(deeds.deed_done).parameters), ["table", "deed", "reels"])


class Deeds(unittest.TestCase):
    def done(self, track, deed, right):
        """Done on each of three tracks, none of them tied; the others stay."""
        for number in range(3):
            tracks = [[SKY], [nest(0, 3)], [SKY, SKY]]
            tracks[number] = track
            table = table_of(*tracks)
            with self.subTest(track=track, deed=deed, number=number):
                told = deed_done(table, deed[:1] + (number,) + deed[2:], REELS)
                self.assertIsInstance(told, tuple)
                self.assertEqual(told, with_track(table, number, right))
                self.assertTrue(is_good(told))

    def refused(self, kind, track, *deeds_of_it, tied=()):
        for deed in deeds_of_it:
            with self.subTest(track=track, deed=deed):
                with self.assertRaises(kind) as caught:
                    deed_done(table_of(track, [SKY], tied=tied), deed, REELS)
                self.assertIs(type(caught.exception), kind)

    def short(self, most, track, deed):
        with self.subTest(track=track, deed=deed):
            with self.assertRaises(Short) as caught:
                deed_done(table_of(track), deed, REELS)
            self.assertEqual(caught.exception.most, most)
            self.assertIs(type(caught.exception.most), int)


class TestCutAndHeal(Deeds):
    def test_clips(self):
        self.done([clip(20, 5)], ("cut", 0, 2), [clip(20, 2), clip(22, 3)])
        self.done([clip(20, 5)], ("cut", 0, 1), [clip(20, 1), clip(21, 4)])
        self.done([clip(20, 5)], ("cut", 0, 4), [clip(20, 4), clip(24, 1)])
        self.done([gap(3), SKY, clip(20, 5, Fraction(-1, 3)), SKY], ("cut", 0, 8),
                  [gap(3), SKY, clip(20, 2, Fraction(-1, 3)), clip(Fraction(58, 3), 3, Fraction(-1, 3)), SKY])

    def test_nests(self):
        self.done([SKY, nest(7, 5)], ("cut", 0, 4), [SKY, nest(7, 1), nest(8, 4)])
        self.done([SKY, nest(0, 5), gap(1), SKY], ("cut", 0, 7), [SKY, nest(0, 4), nest(4, 1), gap(1), SKY])

    def test_heal(self):
        self.done([SKY, clip(20, 2), clip(22, 3), gap(1), SKY], ("heal", 0, 5), [SKY, clip(20, 5), gap(1), SKY])
        self.done([clip(20, 2, 0), clip(20, 3, 0)], ("heal", 0, 2), [clip(20, 5, 0)])
        self.done([clip(20, 2, Fraction(1, 3)), clip(Fraction(62, 3), 3, Fraction(1, 3))], ("heal", 0, 2),
                  [clip(20, 5, Fraction(1, 3))])
        self.done([SKY, nest(7, 1), nest(8, 4)], ("heal", 0, 4), [SKY, nest(7, 5)])
        self.done([nest(7, 1, "empty"), nest(8, 4, "empty"), SKY], ("heal", 0, 1), [nest(7, 5, "empty"), SKY])

    def test_heal_joins_two_alone(self):
        track = [clip(20, 2), clip(22, 2), clip(24, 2)]
        self.done(track, ("heal", 0, 2), [clip(20, 4), clip(24, 2)])
        self.done(track, ("heal", 0, 4), [clip(20, 2), clip(22, 4)])

    def test_great_numbers(self):
        self.done([nest(HUGE, HUGE)], ("cut", 0, HUGE - 1), [nest(HUGE, HUGE - 1), nest(2 * HUGE - 1, 1)])
        self.done([clip(3, HUGE, 0)], ("cut", 0, HUGE - 1), [clip(3, HUGE - 1, 0), clip(3, 1, 0)])
        self.done([nest(HUGE, HUGE), nest(2 * HUGE, 1)], ("heal", 0, HUGE), [nest(HUGE, HUGE + 1)])

    def test_mixes_beside_stay(self):
        track = [clip(20, 4), mix(3), clip(50, 6), mix(2), clip(30, 4)]
        halves = [clip(20, 4), mix(3), clip(50, 2), clip(52, 4), mix(2), clip(30, 4)]
        self.done(track, ("cut", 0, 6), halves)
        self.done(halves, ("heal", 0, 6), track)
        self.done(track, ("cut", 0, 9), [clip(20, 4), mix(3), clip(50, 5), clip(55, 1), mix(2), clip(30, 4)])

    def test_no_place_to_cut(self):
        track = [gap(3), clip(20, 4), nest(0, 4), gap(2), clip(30, 2), clip(32, 2)]
        self.refused(NoPlace, track, *[("cut", 0, moment) for moment in (0, 1, 2, 3, 7, 11, 12, 13, 15, 17, 18, 30, HUGE)])
        self.refused(NoPlace, [], ("cut", 0, 0), ("cut", 0, 1))

    def test_no_place_to_heal(self):
        pairs = (
            [clip(20, 2), clip(23, 3)], [clip(20, 2), clip(21, 3)], [clip(20, 2), clip(20, 3)], [clip(22, 3), clip(20, 2)],
            [clip(20, 2, 2), clip(24, 3)], [clip(20, 2), clip(22, 3, 2)], [clip(3, 2), clip(5, 3, 1, "sky")],
            [clip(20, 2, Fraction(1, 2)), clip(22, 3, Fraction(1, 2))], [clip(20, 2, 0), clip(21, 2, 0)],
            [nest(7, 2), nest(9, 4, "empty")], [nest(7, 2), nest(8, 4)], [nest(7, 2), nest(10, 4)],
            [nest(20, 2), clip(22, 3)], [clip(20, 2), nest(22, 3)], [gap(2), clip(22, 3)], [gap(2), nest(2, 3)],
        )
        for track in pairs:
            self.refused(NoPlace, track, ("heal", 0, 2))
        self.refused(NoPlace, [clip(20, 2), gap(2), clip(22, 3)], ("heal", 0, 2), ("heal", 0, 4))
        track = [clip(20, 2), clip(22, 3)]
        self.refused(NoPlace, track, *[("heal", 0, moment) for moment in (0, 1, 3, 4, 5, 6, HUGE)])
        self.refused(NoPlace, [], ("heal", 0, 0))


class TestLayInAndOpen(Deeds):
    track = [gap(3), clip(20, 4), nest(5, 4), SKY]

    def test_lay_in(self):
        item = clip(40, 2)
        self.done(self.track, ("lay_in", 0, 0, item), [item] + self.track)
        self.done(self.track, ("lay_in", 0, 1, item), [gap(1), item, gap(2)] + self.track[1:])
        self.done(self.track, ("lay_in", 0, 3, item), [gap(3), item] + self.track[1:])
        self.done(self.track, ("lay_in", 0, 4, item), [gap(3), clip(20, 1), item, clip(21, 3), nest(5, 4), SKY])
        self.done(self.track, ("lay_in", 0, 7, item), [gap(3), clip(20, 4), item, nest(5, 4), SKY])
        self.done(self.track, ("lay_in", 0, 10, item), [gap(3), clip(20, 4), nest(5, 3), item, nest(8, 1), SKY])
        self.done(self.track, ("lay_in", 0, 14, item), self.track + [item])
        self.done(self.track, ("lay_in", 0, 15, item), self.track + [gap(1), item])
        self.done(self.track, ("lay_in", 0, HUGE, item), self.track + [gap(HUGE - 14), item])
        self.done([], ("lay_in", 0, 0, item), [item])
        self.done([], ("lay_in", 0, 9, item), [gap(9), item])

    def test_what_goes_on_stays_apart(self):
        self.done([clip(20, 2), clip(24, 2)], ("lay_in", 0, 2, clip(22, 2)), [clip(20, 2), clip(22, 2), clip(24, 2)])
        self.done([nest(0, 2)], ("lay_in", 0, 2, nest(2, 2)), [nest(0, 2), nest(2, 2)])

    def test_nests_of_whatever_name(self):
        for item in (nest(3, 2), nest(0, 1, "empty"), nest(HUGE, 5), nest(0, 9, "nowhere"), nest(0, 9, "z")):
            for word in WITH_ITEM:
                right = [clip(20, 1), item] + ([clip(21, 1)] if word == "lay_in" else [])
                told = deed_done(table_of([clip(20, 2)]), (word, 0, 1, item), REELS)
                self.assertEqual(told, table_of(right))

    def test_open(self):
        self.done(self.track, ("open", 0, 0, 2), [gap(5)] + self.track[1:])
        self.done(self.track, ("open", 0, 2, 2), [gap(5)] + self.track[1:])
        self.done(self.track, ("open", 0, 3, 1), [gap(4)] + self.track[1:])
        self.done(self.track, ("open", 0, 6, 2), [gap(3), clip(20, 3), gap(2), clip(23, 1), nest(5, 4), SKY])
        self.done(self.track, ("open", 0, 7, 2), [gap(3), clip(20, 4), gap(2), nest(5, 4), SKY])
        self.done(self.track, ("open", 0, 8, HUGE), [gap(3), clip(20, 4), nest(5, 1), gap(HUGE), nest(6, 3), SKY])

    def test_open_at_the_end_and_behind_it(self):
        for moment in (14, 15, 30, HUGE):
            self.done(self.track, ("open", 0, moment, 5), self.track)
            self.done([], ("open", 0, moment, 5), [])

    def test_mixes_behind_come_later(self):
        track = [clip(20, 4), mix(3), clip(50, 4), mix(1), clip(30, 4)]
        self.done(track, ("open", 0, 0, 2), [gap(2)] + track)
        self.done(track, ("open", 0, 2, 2), [clip(20, 2), gap(2), clip(22, 2), mix(3), clip(50, 4), mix(1), clip(30, 4)])
        self.done(track, ("lay_in", 0, 7, SKY),
                  [clip(20, 4), mix(3), clip(50, 3), SKY, clip(53, 1), mix(1), clip(30, 4)])
        self.done(track, ("lay_in", 0, 9, SKY),
                  [clip(20, 4), mix(3), clip(50, 4), mix(1), clip(30, 1), SKY, clip(31, 3)])


class TestCloseLiftLayOver(Deeds):
    track = [clip(20, 4), gap(3), nest(5, 4), SKY]

    def test_close(self):
        self.done(self.track, ("close", 0, 0, 4), [gap(3), nest(5, 4), SKY])
        self.done(self.track, ("close", 0, 1, 3), [clip(20, 1), clip(23, 1), gap(3), nest(5, 4), SKY])
        self.done(self.track, ("close", 0, 3, 5), [clip(20, 3), gap(2), nest(5, 4), SKY])
        self.done(self.track, ("close", 0, 4, 7), [clip(20, 4), nest(5, 4), SKY])
        self.done(self.track, ("close", 0, 5, 6), [clip(20, 4), gap(2), nest(5, 4), SKY])
        self.done(self.track, ("close", 0, 2, 13), [clip(20, 2), clip(4, 1, 1, "sky")])
        self.done(self.track, ("close", 0, 8, 10), [clip(20, 4), gap(3), nest(5, 1), nest(8, 1), SKY])
        self.done(self.track, ("close", 0, 0, 14), [])
        self.done(self.track, ("close", 0, 0, HUGE), [])

    def test_close_up_to_the_end_and_behind_it(self):
        for last in (14, 15, HUGE):
            self.done(self.track, ("close", 0, 12, last), [clip(20, 4), gap(3), nest(5, 4), clip(2, 1, 1, "sky")])
            self.done(self.track, ("close", 0, 7, last), [clip(20, 4)])
            self.done(self.track, ("close", 0, 6, last), [clip(20, 4)])
        for first in (14, 15, HUGE):
            self.done(self.track, ("close", 0, first, first + 2), self.track)
            self.done([], ("close", 0, first, first + 2), [])

    def test_gaps_that_meet_become_one(self):
        self.done([clip(20, 4), gap(3), SKY, gap(2), SKY], ("close", 0, 7, 10), [clip(20, 4), gap(5), SKY])
        self.done([clip(20, 4), gap(3), SKY, gap(2), SKY], ("lift", 0, 7, 10), [clip(20, 4), gap(8), SKY])
        self.done([gap(3), SKY, gap(2), SKY], ("close", 0, 2, 7), [gap(3), SKY])
        self.done([SKY, SKY, SKY], ("lift", 0, 3, 4), [SKY, gap(1), clip(3, 2, 1, "sky"), SKY])

    def test_lift(self):
        self.done(self.track, ("lift", 0, 0, 4), [gap(7), nest(5, 4), SKY])
        self.done(self.track, ("lift", 0, 1, 3), [clip(20, 1), gap(2), clip(23, 1), gap(3), nest(5, 4), SKY])
        self.done(self.track, ("lift", 0, 2, 13), [clip(20, 2), gap(11), clip(4, 1, 1, "sky")])
        self.done(self.track, ("lift", 0, 4, 7), self.track)
        self.done(self.track, ("lift", 0, 5, 6), self.track)
        for last in (14, 15, HUGE):
            self.done(self.track, ("lift", 0, 12, last), [clip(20, 4), gap(3), nest(5, 4), clip(2, 1, 1, "sky")])
            self.done(self.track, ("lift", 0, 6, last), [clip(20, 4)])
            self.done(self.track, ("lift", 0, 0, last), [])
        for first in (14, 15, HUGE):
            self.done(self.track, ("lift", 0, first, first + 2), self.track)
            self.done([], ("lift", 0, first, first + 2), [])

    def test_lay_over(self):
        item = clip(40, 2)
        self.done(self.track, ("lay_over", 0, 0, item), [item, clip(22, 2)] + self.track[1:])
        self.done(self.track, ("lay_over", 0, 1, item), [clip(20, 1), item, clip(23, 1)] + self.track[1:])
        self.done(self.track, ("lay_over", 0, 3, item), [clip(20, 3), item, gap(2), nest(5, 4), SKY])
        self.done(self.track, ("lay_over", 0, 5, item), [clip(20, 4), gap(1), item, nest(5, 4), SKY])
        self.done(self.track, ("lay_over", 0, 8, item), [clip(20, 4), gap(3), nest(5, 1), item, nest(8, 1), SKY])
        self.done(self.track, ("lay_over", 0, 2, clip(30, 11)), [clip(20, 2), clip(30, 11), clip(4, 1, 1, "sky")])
        self.done(self.track, ("lay_over", 0, 0, clip(30, 14)), [clip(30, 14)])
        self.done(self.track, ("lay_over", 0, 0, clip(30, 15)), [clip(30, 15)])

    def test_lay_over_at_the_end_and_behind_it(self):
        item = nest(3, 2)
        self.done(self.track, ("lay_over", 0, 13, item), self.track[:3] + [clip(2, 2, 1, "sky"), item])
        self.done(self.track, ("lay_over", 0, 14, item), self.track + [item])
        self.done(self.track, ("lay_over", 0, 16, item), self.track + [gap(2), item])
        self.done([], ("lay_over", 0, 0, item), [item])
        self.done([], ("lay_over", 0, HUGE, item), [gap(HUGE), item])

    def test_mixes_beside_stay(self):
        track = [clip(20, 6), mix(3), clip(50, 6), mix(2), clip(30, 6)]
        ahead, behind = [clip(20, 6), mix(3)], [mix(2), clip(30, 6)]
        self.done(track, ("close", 0, 8, 11), ahead + [clip(50, 2), clip(55, 1)] + behind)
        self.done(track, ("lift", 0, 8, 11), ahead + [clip(50, 2), gap(3), clip(55, 1)] + behind)
        self.done(track, ("lay_over", 0, 8, SKY), ahead + [clip(50, 2), SKY, clip(55, 1)] + behind)
        self.done(track, ("close", 0, 0, 5), [clip(25, 1)] + track[1:])
        self.done(track, ("close", 0, 13, 99), track[:4] + [clip(30, 1)])


class TestMixAndUnmix(Deeds):
    track = [gap(1), clip(20, 4), clip(50, 6), nest(0, 3), SKY, clip(5, 2, 1, "sky")]

    def test_done(self):
        for length in range(1, 10):
            mixed = self.track[:2] + [mix(length)] + self.track[2:]
            self.done(self.track, ("mix", 0, 5, length), mixed)
            self.done(mixed, ("unmix", 0, 5), self.track)

    def test_between_other_mixes(self):
        track = [clip(20, 4), mix(4), clip(30, 4), clip(40, 4), mix(3), clip(50, 4)]
        for length in range(1, 6):
            self.done(track, ("mix", 0, 8, length), track[:3] + [mix(length)] + track[3:])
        self.short(5, track, ("mix", 0, 8, 6))
        self.done(track, ("unmix", 0, 4), track[:1] + track[2:])
        self.done(track, ("unmix", 0, 12), track[:4] + track[5:])

    def test_short(self):
        self.short(9, self.track, ("mix", 0, 5, 10))
        self.short(9, self.track, ("mix", 0, 5, HUGE))
        self.short(0, [clip(95, 5), clip(50, 5)], ("mix", 0, 5, 1))
        self.short(1, [clip(20, 5), clip(0, 5)], ("mix", 0, 5, 2))
        self.done([clip(20, 5), clip(0, 5)], ("mix", 0, 5, 1), [clip(20, 5), mix(1), clip(0, 5)])
        self.short(1, [clip(20, 1), mix(1), clip(30, 1), clip(40, 1)], ("mix", 0, 2, 2))
        self.short(0, [clip(20, 3), clip(30, 1), mix(2), clip(40, 1)], ("mix", 0, 3, 1))

    def test_no_place_to_mix(self):
        for moment in (0, 1, 2, 4, 6, 11, 14, 19, 20, HUGE):
            self.refused(NoPlace, self.track, ("mix", 0, moment, 1), ("mix", 0, moment, HUGE), ("unmix", 0, moment))
        self.refused(NoPlace, [nest(0, 3), nest(3, 3)], ("mix", 0, 3, 1), ("unmix", 0, 3))
        self.refused(NoPlace, [SKY, nest(3, 3)], ("mix", 0, 3, 1), ("unmix", 0, 3))
        self.refused(NoPlace, [SKY, gap(2), SKY], ("mix", 0, 3, 1), ("mix", 0, 5, 1), ("mix", 0, 4, 1))
        self.refused(NoPlace, [], ("mix", 0, 0, 1), ("unmix", 0, 0))

    def test_no_place_to_mix_where_there_is_one(self):
        track = [clip(20, 4), mix(2), clip(50, 6), clip(30, 3)]
        self.refused(NoPlace, track, ("mix", 0, 4, 1), ("mix", 0, 4, 2), ("mix", 0, 4, HUGE))

    def test_no_place_to_unmix_where_there_is_none(self):
        track = [clip(20, 4), mix(4), clip(50, 6), clip(30, 3)]
        self.refused(NoPlace, track, *[("unmix", 0, moment) for moment in (0, 2, 3, 5, 6, 10, 13, 14)])


class TestNoPlace(Deeds):
    track = [clip(20, 4), clip(24, 4), clip(28, 4), mix(2), clip(60, 4)]

    def test_tracks_that_are_none(self):
        for word in ALL:
            for number in NO_NUMBERS + (2, 3, HUGE):
                self.refused(NoPlace, self.track, deed_of(word, number, 4))

    def test_moments_that_are_none(self):
        for word in ALL:
            for moment in NO_NUMBERS:
                deed = deed_of(word, 0, 4)
                self.refused(NoPlace, self.track, deed[:2] + (moment,) + deed[3:])
        for word in WITH_STRETCH:
            for last in NO_NUMBERS:
                self.refused(NoPlace, self.track, (word, 0, 0, last))

    def test_lengths_that_are_none(self):
        for word in ("open", "mix"):
            for length in NO_NUMBERS + (0,):
                self.refused(NoPlace, self.track, (word, 0, 4, length), (word, 0, 99, length))

    def test_from_is_not_below_to(self):
        for word in WITH_STRETCH:
            for first, last in ((0, 0), (3, 3), (3, 2), (4, 0), (99, 99), (99, 3), (HUGE, HUGE), (HUGE + 1, HUGE)):
                self.refused(NoPlace, self.track, (word, 0, first, last))

    def test_what_is_moved_by_is_none(self):
        for word in ROLLS:
            for by in (None, True, "1", (1, 1), 10**6 + 1, -10**6 - 1):
                self.refused(NoPlace, self.track, (word, 0, 4, by))

    def test_other_words(self):
        for word in ("", "Cut", "trim", "layin", "gap"):
            self.refused(NoPlace, self.track, (word, 0, 2, 1))


class TestNoClip(Deeds):
    wrong = (
        None, True, 0, "clip", "clip sea 0 1 5", (), ("clip",), ("nest",), [], list(clip(20, 2)), list(nest(0, 2)), [clip(20, 2)],
        gap(3), mix(3), ("gap", 0), ("clap", "sea", (0, 1), (1, 1), 2), ("nests", "inner", 0, 2),
        ("clip", "Sea", (0, 1), (1, 1), 2), ("clip", "nowhere", (0, 1), (1, 1), 2), ("clip", "sea", 0, (1, 1), 2),
        ("clip", "sea", (2, 2), (1, 1), 2), ("clip", "sea", (0, 1), (2, 4), 2), ("clip", "sea", (0, 1), (1, 1), 0),
        ("clip", "sea", (0, 1), (1, 1), -1), ("clip", "sea", (0, 1), (1, 1), True), ("clip", "sea", (0, 1), (1, 1)),
        ("clip", "sea", (0, 1), (1, 1), 2, 3), clip(99, 2), clip(100, 1), clip(-1, 3), clip(1, 3, -1), clip(98, 3, 1),
        clip(8, 3, 1, "sky"), ("nest", "inner", 0), ("nest", "inner", 0, 2, 1), ("nest", "inner", -1, 2),
        ("nest", "inner", 0, 0), ("nest", "inner", 0, -1), ("nest", "inner", True, 2), ("nest", "inner", 0, True),
        ("nest", "inner", (0, 1), 2), ("nest", "inner", 0, None), ("nest", 5, 0, 2), ("nest", None, 0, 2),
        ("nest", "", 0, 2), ("nest", "Inner", 0, 2),
    )

    def test_items_that_are_none(self):
        for word in WITH_ITEM:
            for item in self.wrong:
                self.refused(NoClip, [clip(20, 4), SKY], (word, 0, 0, item), (word, 0, 2, item), (word, 0, 99, item))

    def test_the_last_pictures_are_there(self):
        for item in (clip(98, 2), clip(1, 2, -1), clip(0, 10, 1, "sky"), clip(Fraction(99, 10), 3, Fraction(1, 30), "sky")):
            self.done([], ("lay_in", 0, 0, item), [item])
            self.done([], ("lay_over", 0, 0, item), [item])

    def test_the_reels_are_those_handed_in(self):
        deed = ("lay_in", 0, 0, clip(0, 3, 1, "new"))
        self.assertEqual(deed_done(table_of([]), deed, {"new": 3}), table_of([deed[3]]))
        for reels in ({"new": 2}, {}, REELS):
            with self.assertRaises(NoClip):
                deed_done(table_of([]), deed, reels)


class TestMixed(Deeds):
    """The mix has the border 8, its span goes from 6 to 10 (the length 4), to 11 (5) or from 8 to 9 (1)."""

    def track(self, length):
        return [clip(20, 8), mix(length), clip(28, 8)]

    def test_at_a_moment(self):
        for length, touched in ((4, (7, 8, 9)), (5, (7, 8, 9, 10)), (1, (8,)), (2, (8,)), (3, (8, 9))):
            for moment in range(17):
                for word in ("lay_in", "open"):
                    kind = outcome(deed_done, table_of(self.track(length)), deed_of(word, 0, moment), REELS)[0]
                    self.assertEqual(kind is Mixed, moment in touched, (length, moment, word))
                kind = outcome(deed_done, table_of(self.track(length)), ("cut", 0, moment), REELS)[0]
                self.assertEqual(kind is Mixed, moment in touched and moment != 8, (length, moment))
                self.assertEqual(kind is NoPlace, moment in (0, 8, 16), (length, moment))

    def test_heal(self):
        self.refused(Mixed, self.track(4), ("heal", 0, 8))
        self.refused(Mixed, self.track(1), ("heal", 0, 8))
        self.done([clip(20, 8), clip(28, 3), clip(31, 5), mix(3), clip(40, 8)], ("heal", 0, 8),
                  [clip(20, 11), clip(31, 5), mix(3), clip(40, 8)])
        self.done([clip(20, 8), mix(4), clip(28, 2), clip(30, 6)], ("heal", 0, 10), self.track(4))

    def test_in_a_stretch(self):
        stretches = {
            4: (((0, 7), (5, 7), (6, 7), (7, 8), (8, 9), (9, 10), (9, 16), (0, 16), (6, 10)), ((0, 6), (5, 6), (10, 11), (10, 16))),
            5: (((0, 7), (10, 11), (10, 16), (8, 9)), ((0, 6), (11, 12), (11, 16))),
            1: (((7, 8), (0, 8), (8, 9), (8, 16), (7, 9), (0, 16)), ((0, 7), (6, 7), (9, 10), (9, 16))),
            2: (((7, 8), (8, 9), (0, 8), (8, 16)), ((0, 7), (9, 16), (6, 7), (9, 10))),
        }
        for length, (touched, free) in stretches.items():
            for first, last in touched:
                over = ("lay_over", 0, first, clip(40, last - first))
                self.refused(Mixed, self.track(length), ("close", 0, first, last), ("lift", 0, first, last), over)
            for first, last in free:
                table = table_of(self.track(length))
                for deed in (("close", 0, first, last), ("lift", 0, first, last), ("lay_over", 0, first, clip(40, last - first))):
                    self.assertTrue(is_good(deed_done(table, deed, REELS)), (length, deed))

    def test_rolls(self):
        track = [clip(20, 4), clip(30, 4), mix(1), clip(40, 4), clip(50, 4), clip(60, 4)]
        self.refused(Mixed, track, ("roll", 0, 4, 1), ("roll", 0, 8, 1), ("roll", 0, 12, 1), ("slip", 0, 4, 1))
        self.refused(Mixed, track, ("slip", 0, 8, 1), ("slide", 0, 4, 1), ("slide", 0, 12, 1), ("roll", 0, 4, 0))
        self.done(track, ("roll", 0, 16, 1), track[:4] + [clip(50, 5), clip(61, 3)])

    def test_of_tied_tracks(self):
        for number, other in ((0, 1), (1, 0), (1, 2), (2, 0)):
            tracks = [[clip(20, 16)], [clip(40, 16)], [clip(60, 16)]]
            tracks[other] = self.track(4)
            touching = [deed_of("lay_in", number, 7), deed_of("open", number, 8), deed_of("open", number, 9),
                        ("close", number, 0, 7), ("close", number, 9, 12)]
            for deed in touching:
                for tied in ([number, other], [0, 1, 2]):
                    self.assertEqual(outcome(deed_done, table_of(*tracks, tied=sorted(tied)), deed, REELS), (Mixed, {}))
                for tied in ([], [number], [other], [3 - number - other]):
                    told = deed_done(table_of(*tracks, tied=tied), deed, REELS)
                    self.assertEqual(told[0][other], self.track(4))
            for deed in (deed_of("lay_in", number, 6), deed_of("open", number, 10), ("close", number, 0, 6)):
                self.assertTrue(is_good(deed_done(table_of(*tracks, tied=[0, 1, 2]), deed, REELS)))
            for deed in (("cut", number, 8), ("lift", number, 0, 16), ("lay_over", number, 7, SKY), ("slip", number, 8, 1)):
                told = deed_done(table_of(*tracks, tied=[0, 1, 2]), deed, REELS)
                self.assertEqual(told[0][other], self.track(4))


class TestTied(Deeds):
    tracks = ([clip(20, 8)], [gap(3), SKY], [nest(0, 6)], [clip(60, 8)], [])

    def after(self, deed, tied=(0, 1, 2, 4)):
        told = deed_done(table_of(*self.tracks, tied=tied), deed, REELS)
        self.assertEqual(told[1], list(tied))
        self.assertTrue(is_good(told))
        return told[0]

    def test_lay_in_opens_the_others(self):
        told = self.after(("lay_in", 2, 4, clip(40, 2)))
        self.assertEqual(told, [[clip(20, 4), gap(2), clip(24, 4)], [gap(3), clip(2, 1, 1, "sky"), gap(2), clip(3, 2, 1, "sky")],
                                [nest(0, 4), clip(40, 2), nest(4, 2)], [clip(60, 8)], []])

    def test_lay_in_behind_the_end(self):
        told = self.after(("lay_in", 4, 7, nest(0, 3)))
        self.assertEqual(told, [[clip(20, 7), gap(3), clip(27, 1)], [gap(3), SKY], [nest(0, 6)], [clip(60, 8)],
                                [gap(7), nest(0, 3)]])

    def test_open(self):
        right = [[gap(5), clip(20, 8)], [gap(8), SKY], [gap(5), nest(0, 6)], [clip(60, 8)], []]
        for number in (0, 1, 2, 4):
            self.assertEqual(self.after(("open", number, 0, 5)), right)
        told = self.after(("open", 4, 6, 1))
        self.assertEqual(told, [[clip(20, 6), gap(1), clip(26, 2)], [gap(3), SKY], [nest(0, 6)], [clip(60, 8)], []])

    def test_close(self):
        right = [[clip(20, 2), clip(25, 3)], [gap(2), clip(4, 1, 1, "sky")], [nest(0, 2), nest(5, 1)], [clip(60, 8)], []]
        for number in (0, 1, 2, 4):
            self.assertEqual(self.after(("close", number, 2, 5)), right)
        self.assertEqual(self.after(("close", 4, 1, 7)), [[clip(20, 1), clip(27, 1)], [], [nest(0, 1)], [clip(60, 8)], []])

    def test_a_track_that_is_not_tied_goes_alone(self):
        for tied in ((), (3,), (0, 1, 2, 4), (1, 2)):
            for deed in (("lay_in", 3, 4, SKY), ("open", 3, 4, 3), ("close", 3, 4, 6)):
                told = self.after(deed, tied)
                right = {"lay_in": [clip(60, 4), SKY, clip(64, 4)], "open": [clip(60, 4), gap(3), clip(64, 4)],
                         "close": [clip(60, 4), clip(66, 2)]}
                self.assertEqual(told[:3] + told[4:], list(self.tracks[:3] + self.tracks[4:]))
                self.assertEqual(told[3], right[deed[0]])

    def test_other_deeds_change_one_track_alone(self):
        tracks = [[clip(20, 4), clip(24, 4), clip(28, 4)], [clip(30, 12)], [nest(0, 6)]]
        table = table_of(*tracks, tied=[0, 1, 2])
        some = [("cut", 0, 2), ("heal", 0, 4), ("lift", 0, 1, 9), ("lay_over", 0, 3, SKY), ("mix", 0, 4, 2), ("roll", 0, 4, 1),
                ("slip", 0, 5, 2), ("slide", 0, 5, -1), ("lay_over", 0, 20, SKY)]
        for deed in some:
            told = deed_done(table, deed, REELS)
            self.assertNotEqual(told[0][0], tracks[0], deed)
            self.assertEqual((told[0][1:], told[1]), (tracks[1:], [0, 1, 2]), deed)
        mixed = table_of([clip(20, 4), mix(2), clip(24, 4)], [clip(20, 4), mix(2), clip(24, 4)], tied=[0, 1])
        self.assertEqual(deed_done(mixed, ("unmix", 0, 4), REELS)[0][1], mixed[0][1])


class TestOrder(Deeds):
    """Of several refusals the first of NoPlace, NoClip, Mixed, Short."""

    track = [clip(20, 4), mix(2), clip(24, 4)]

    def test_no_place_ahead_of_no_clip(self):
        for word in WITH_ITEM:
            for number, moment in ((2, 4), (-1, 4), (True, 4), (0, -1), (0, None), (0, True)):
                self.refused(NoPlace, self.track, (word, number, moment, None), (word, number, moment, clip(99, 2)))

    def test_no_clip_ahead_of_mixed(self):
        for word in WITH_ITEM:
            self.refused(NoClip, self.track, (word, 0, 4, None), (word, 0, 4, clip(99, 2)), (word, 0, 4, gap(2)))
            self.refused(Mixed, self.track, (word, 0, 4, clip(40, 2)), (word, 0, 4, nest(0, 2)))

    def test_no_place_ahead_of_mixed(self):
        self.refused(NoPlace, self.track, ("cut", 0, 4), ("close", 0, 5, 4), ("lift", 0, 4, 4), ("open", 0, 4, 0))
        self.refused(NoPlace, [clip(20, 4), mix(2), clip(25, 4)], ("heal", 0, 4))
        self.refused(NoPlace, self.track, ("slide", 0, 4, 1), ("roll", 0, 3, 1), ("roll", 0, 4, None))

    def test_no_place_ahead_of_short(self):
        self.refused(NoPlace, self.track, ("mix", 0, 4, HUGE), ("mix", 0, 3, HUGE), ("mix", 0, 8, HUGE))
        self.refused(NoPlace, [clip(95, 5), clip(0, 1)], ("roll", 0, 5, 10**6 + 1), ("slide", 0, 5, 9))

    def test_mixed_ahead_of_short(self):
        self.refused(Mixed, self.track, ("roll", 0, 4, 999), ("slip", 0, 0, 999), ("slip", 0, 5, -999))


class TestRolls(unittest.TestCase):
    def test_as_rolled(self):
        tracks = [[clip(20, 4), clip(30, 4), clip(40, 4), gap(1), clip(95, 5), clip(0, 3), nest(0, 3)],
                  [clip(20, 4), mix(2), clip(30, 4), clip(40, 4), clip(3, 1, 1, "sky")]]
        table = table_of(*tracks, tied=[0, 1])
        seen = set()
        for word in ROLLS:
            for number in (-1, 0, 1, 2, None):
                for moment in range(-1, 26):
                    for by in (-40, -3, -1, 0, 1, 3, 40, None, 10**6 + 1):
                        told = outcome(deed_done, table, (word, number, moment, by), REELS)
                        self.assertEqual(told, outcome(rolled, table, (word, number, moment, by), REELS))
                        seen.add((word, told[0] if isinstance(told[0], type) else "done"))
        self.assertEqual(len(seen), 12)


class TestAllDeeds(unittest.TestCase):
    """All deeds of small numbers to tables at random, against a model that goes moment by moment."""

    def tables(self):
        rng = random.Random(19)
        yield table_of([clip(20, 3), mix(2), clip(30, 3), gap(2), nest(1, 3), nest(4, 2)], [clip(3, 2), clip(5, 4)], [gap(4), SKY],
                       tied=[0, 1, 2])
        for _ in range(14):
            yield random_table(rng)

    def test_against_the_model(self):
        seen = set()
        for table in self.tables():
            before = copied(table)
            self.assertTrue(is_good(table))
            for deed in all_deeds(table, LAID):
                told = outcome(deed_done, table, deed, REELS)
                self.assertEqual(told, by_model(table, deed), (table, deed))
                self.assertEqual(table, before)
                seen.add((deed[0], told[0] if isinstance(told[0], type) else "done"))
                if not isinstance(told[0], type):
                    self.check_told(table, deed, told)
        self.assertEqual({word for word, end in seen if end == "done"}, set(ALL))
        self.assertEqual({word for word, end in seen if end is Mixed}, set(ALL) - {"mix", "unmix"})
        self.assertEqual({word for word, end in seen if end is Short}, {"mix"} | set(ROLLS))

    def check_told(self, table, deed, told):
        if not is_good(told):
            self.fail((table, deed, told))
        self.assertEqual(told[1], table[1])
        room = room_with(table)
        for number, track in enumerate(told[0]):
            old = table[0][number]
            if number not in changed_by_model(table, deed):
                self.assertEqual(track, old)
            elif deed[0] not in ROLLS + ("mix", "unmix"):
                end = max(length_by_model(track), length_by_model(old)) + 3
                right = [self.told_behind(old, deed, number, moment, room) for moment in range(end)]
                self.assertEqual([told_on(track, moment, room) for moment in range(end)], right, (table, deed))

    def told_behind(self, old, deed, number, moment, room):
        """What point 3 says that a changed track tells behind the deed."""
        word, first = deed[0], deed[2]
        if moment < first or word in ("cut", "heal"):
            return told_on(old, moment, room)
        if word == "close":
            return told_on(old, moment + deed[3] - first, room)
        length = deed[3] - first if word == "lift" else deed[3] if word == "open" else deed[3][-1]
        if moment < first + length:
            return told_on([deed[3]], moment - first, room) if word in WITH_ITEM and number == deed[1] else []
        return told_on(old, moment - length if word in NEW_LENGTHS else moment, room)

    def test_mix_tells_as_before_outside_of_its_span(self):
        track = [clip(20, 6), clip(40, 6), SKY]
        room = room_with(table_of(track))
        for length in range(1, 12):
            told = deed_done(table_of(track), ("mix", 0, 6, length), REELS)[0][0]
            for moment in range(18):
                is_within = 6 - length // 2 <= moment < 6 + length - length // 2
                self.assertEqual(told_on(told, moment, room) != told_on(track, moment, room), is_within, (length, moment))

    def test_rows_of_deeds_never_leave_the_room(self):
        rng = random.Random(3)
        for _ in range(25):
            table = random_table(rng)
            for _ in range(12):
                deed = rng.choice(list(all_deeds(table, LAID)))
                told = outcome(deed_done, table, deed, REELS)
                if not isinstance(told[0], type):
                    table = told
                    self.assertTrue(is_good(table), (deed, table))


class TestNothingIsChanged(unittest.TestCase):
    def made(self):
        own = [clip(20, 4), clip(24, 4), clip(40, 4), gap(4), clip(50, 4), mix(2), clip(60, 4)]
        return ([[clip(0, 5)], own, [nest(0, 9)], []], [1, 2])

    def some(self):
        return [("cut", 1, 2), ("heal", 1, 4), ("lay_in", 1, 4, SKY), ("open", 1, 4, 2), ("open", 1, 99, 2), ("close", 1, 2, 6),
                ("close", 1, 99, 100), ("lift", 1, 2, 6), ("lift", 1, 13, 14), ("lay_over", 1, 3, SKY), ("roll", 1, 4, 1),
                ("roll", 1, 4, 0), ("slip", 1, 4, 1), ("slide", 1, 4, 1), ("mix", 1, 4, 2), ("unmix", 1, 20)]

    def test_the_table_stays(self):
        table = self.made()
        reels = dict(REELS)
        for deed in self.some():
            deed_done(table, deed, reels)
            self.assertEqual((table, reels), (self.made(), REELS), deed)

    def test_the_table_stays_where_it_is_refused(self):
        table = self.made()
        reels = dict(REELS)
        some = [(NoPlace, deed[:1] + (9,) + deed[2:]) for deed in self.some()]
        some += [(NoClip, ("lay_in", 1, 4, None)), (Mixed, ("close", 1, 4, 20)), (Mixed, ("lay_in", 2, 20, SKY)),
                 (Short, ("mix", 1, 4, 99)), (Short, ("slip", 1, 4, 999))]
        for kind, deed in some:
            with self.assertRaises(kind):
                deed_done(table, deed, reels)
            self.assertEqual((table, reels), (self.made(), REELS), deed)

    def test_the_told_table_has_no_list_of_it(self):
        table = self.made()
        held = [id(one) for one in [table[0], table[1]] + table[0]]
        for deed in self.some():
            told = deed_done(table, deed, REELS)
            lists = [told[0], told[1]] + told[0]
            for one in lists:
                self.assertIsInstance(one, list)
                self.assertNotIn(id(one), held, deed)
            self.assertEqual(len({id(one) for one in lists}), len(lists), deed)

    def test_what_is_changed_behind_the_call_changes_nothing(self):
        for deed in self.some():
            table = self.made()
            right = deed_done(self.made(), deed, REELS)
            told = deed_done(table, deed, REELS)
            for track in table[0]:
                track.clear()
            table[1].clear()
            self.assertEqual(told, right)
            table = self.made()
            for track in deed_done(table, deed, REELS)[0]:
                track.append(gap(1))
            self.assertEqual(table, self.made())
            self.assertEqual(deed_done(table, deed, REELS), right)


if __name__ == "__main__":
    unittest.main()
