"""Points 2, 3 and 24: for each deed the row of deeds that leads back to the very table."""

import inspect
import random
import unittest
from fractions import Fraction

from helper import NO_NUMBERS, REELS, all_deeds, clip, copied, gap, mix, moments_by_model, nest, outcome, pair, places_of
from helper import random_table, table_of
from reelcut import backs
from reelcut.backs import back_of
from reelcut.deeds import deed_done
from reelcut.errors import Mixed, NoClip, NoPlace, Short

HUGE = 10**40
SKY = clip(2, 3, 1, "sky")
LAID = (clip(40, 2), SKY, nest(1, 4), nest(0, 1, "empty"))


def parts_by_model(track, low, high):
    """The clips and nests of a stretch, as far as they lie in it, each with the moment at which its part begins."""
    found = []
    signs = moments_by_model(track)
    for place, begin in places_of(track):
        item = track[place]
        there = [moment for moment in range(low, min(high, len(signs))) if signs[moment][0] == place]
        if there and item[0] == "nest":
            found.append((there[0], nest(item[2] + there[0] - begin, len(there), item[1])))
        if there and item[0] == "clip":
            start = Fraction(*item[2]) + (there[0] - begin) * Fraction(*item[3])
            found.append((there[0], item[:2] + (pair(start), item[3], len(there))))
    return found


def heals_by_model(track, number, moments):
    signs = moments_by_model(track)
    return [("heal", number, moment) for moment in moments if 0 < moment < len(signs)
            and signs[moment - 1][0] == signs[moment][0] and track[signs[moment][0]][0] != "gap"]


def laid_again_by_model(table, number, low, high):
    track = table[0][number]
    laid = [("lay_over", number, moment, part) for moment, part in parts_by_model(track, low, high)]
    return laid + heals_by_model(track, number, (low, high))


def own_first(table, number):
    return [number] + [other for other in table[1] if other != number and number in table[1]]


def back_by_model(table, deed):
    word, number, moment = deed[:3]
    if word in ("cut", "heal", "mix"):
        return [({"cut": "heal", "heal": "cut", "mix": "unmix"}[word], number, moment)]
    if word == "unmix":
        track = table[0][number]
        return [("mix", number, moment, track[place][1]) for place, begin in places_of(track)
                if begin == moment and track[place][0] == "mix"]
    if word in ("roll", "slide", "slip"):
        return [(word, number, moment + (0 if word == "slip" else deed[3]), -deed[3])]
    if word in ("lay_in", "open"):
        length = deed[3] if word == "open" else deed[3][-1]
        back = [("close", number, moment, moment + length)]
        for other in own_first(table, number):
            back += heals_by_model(table[0][other], other, (moment,))
        return back
    if word == "lift":
        return laid_again_by_model(table, number, moment, deed[3])
    if word == "lay_over":
        last = moment + deed[3][-1]
        return [("lift", number, moment, last)] + laid_again_by_model(table, number, moment, last)
    back = [("open", number, moment, deed[3] - moment)]
    for other in own_first(table, number):
        back += laid_again_by_model(table, other, moment, deed[3])
    return back


class Backs(unittest.TestCase):
    def back(self, table, deed, right):
        with self.subTest(table=table, deed=deed):
            told = back_of(table, deed, REELS)
            self.assertEqual(told, right)
            self.assertIsInstance(told, list)
            self.leads_back(table, deed, told)

    def leads_back(self, table, deed, back):
        there = deed_done(table, deed, REELS)
        for one in back:
            there = deed_done(there, one, REELS)
        self.assertEqual(there, table, (deed, back))


class TestInterface(unittest.TestCase):
    def test_arguments_bear_their_names(self):
        self.assertEqual(list(inspect.signature(backs.back_of).parameters), ["table", "deed", "reels"])


class TestOneTrack(Backs):
    track = [clip(20, 4), gap(3), nest(5, 4), SKY, clip(5, 2, 1, "sky")]

    def on(self, deed, *right):
        """Told of the second of three tracks."""
        table = table_of([nest(0, 5)], self.track, [SKY])
        self.back(table, deed[:1] + (1,) + deed[2:], [one[:1] + (1,) + one[2:] for one in right])

    def test_cut_and_heal(self):
        self.on(("cut", 1, 1), ("heal", 1, 1))
        self.on(("cut", 1, 9), ("heal", 1, 9))
        self.on(("heal", 1, 14), ("cut", 1, 14))
        self.back(table_of([nest(3, 2), nest(5, 3)]), ("heal", 0, 2), [("cut", 0, 2)])

    def test_mix_and_unmix(self):
        self.on(("mix", 1, 14, 1), ("unmix", 1, 14))
        for length in range(1, 9):
            table = table_of([clip(20, 4), clip(40, 4)])
            self.back(table, ("mix", 0, 4, length), [("unmix", 0, 4)])
            table = table_of([clip(20, 4), mix(length), clip(40, 4), mix(1), clip(50, 4)])
            self.back(table, ("unmix", 0, 4), [("mix", 0, 4, length)])
            self.back(table, ("unmix", 0, 8), [("mix", 0, 8, 1)])

    def test_lay_in(self):
        for item in (clip(40, 2), nest(3, 2)):
            for moment in (0, 4, 5, 7, 11, 14, 16, 20):
                self.on(("lay_in", 1, moment, item), ("close", 1, moment, moment + 2))
            for moment in (1, 3, 8, 10, 12, 15):
                self.on(("lay_in", 1, moment, item), ("close", 1, moment, moment + 2), ("heal", 1, moment))
        self.on(("lay_in", 1, HUGE, nest(0, HUGE)), ("close", 1, HUGE, 2 * HUGE))

    def test_open(self):
        for moment in (0, 4, 5, 7, 11, 14, 16, 20, HUGE):
            self.on(("open", 1, moment, 3), ("close", 1, moment, moment + 3))
        for moment in (1, 3, 8, 10, 12, 15):
            self.on(("open", 1, moment, HUGE), ("close", 1, moment, moment + HUGE), ("heal", 1, moment))

    def test_lift(self):
        self.on(("lift", 1, 0, 4), ("lay_over", 1, 0, clip(20, 4)))
        self.on(("lift", 1, 1, 4), ("lay_over", 1, 1, clip(21, 3)), ("heal", 1, 1))
        self.on(("lift", 1, 0, 3), ("lay_over", 1, 0, clip(20, 3)), ("heal", 1, 3))
        self.on(("lift", 1, 1, 3), ("lay_over", 1, 1, clip(21, 2)), ("heal", 1, 1), ("heal", 1, 3))
        self.on(("lift", 1, 8, 10), ("lay_over", 1, 8, nest(6, 2)), ("heal", 1, 8), ("heal", 1, 10))
        self.on(("lift", 1, 4, 7))
        self.on(("lift", 1, 5, 6))
        self.on(("lift", 1, 16, 20))
        self.on(("lift", 1, 90, HUGE))
        self.on(("lift", 1, 5, 8), ("lay_over", 1, 7, nest(5, 1)), ("heal", 1, 8))
        self.on(("lift", 1, 3, 5), ("lay_over", 1, 3, clip(23, 1)), ("heal", 1, 3))

    def test_lift_of_several_items(self):
        nests = ("lay_over", 1, 7, nest(5, 4))
        skies = (("lay_over", 1, 11, SKY), ("lay_over", 1, 14, clip(5, 2, 1, "sky")))
        self.on(("lift", 1, 2, 15), ("lay_over", 1, 2, clip(22, 2)), nests, skies[0],
                ("lay_over", 1, 14, clip(5, 1, 1, "sky")), ("heal", 1, 2), ("heal", 1, 15))
        for last in (16, 17, HUGE):
            self.on(("lift", 1, 0, last), ("lay_over", 1, 0, clip(20, 4)), nests, *skies)
            self.on(("lift", 1, 9, last), ("lay_over", 1, 9, nest(7, 2)), *skies, ("heal", 1, 9))

    def test_lay_over(self):
        item = clip(50, 2)
        self.on(("lay_over", 1, 0, item), ("lift", 1, 0, 2), ("lay_over", 1, 0, clip(20, 2)), ("heal", 1, 2))
        self.on(("lay_over", 1, 1, item), ("lift", 1, 1, 3), ("lay_over", 1, 1, clip(21, 2)), ("heal", 1, 1), ("heal", 1, 3))
        self.on(("lay_over", 1, 2, item), ("lift", 1, 2, 4), ("lay_over", 1, 2, clip(22, 2)), ("heal", 1, 2))
        self.on(("lay_over", 1, 4, item), ("lift", 1, 4, 6))
        self.on(("lay_over", 1, 10, item), ("lift", 1, 10, 12), ("lay_over", 1, 10, nest(8, 1)),
                ("lay_over", 1, 11, clip(2, 1, 1, "sky")), ("heal", 1, 10), ("heal", 1, 12))
        self.on(("lay_over", 1, 15, item), ("lift", 1, 15, 17), ("lay_over", 1, 15, clip(6, 1, 1, "sky")), ("heal", 1, 15))
        self.on(("lay_over", 1, 16, item), ("lift", 1, 16, 18))
        self.on(("lay_over", 1, HUGE, item), ("lift", 1, HUGE, HUGE + 2))

    def test_close(self):
        self.on(("close", 1, 0, 4), ("open", 1, 0, 4), ("lay_over", 1, 0, clip(20, 4)))
        self.on(("close", 1, 1, 3), ("open", 1, 1, 2), ("lay_over", 1, 1, clip(21, 2)), ("heal", 1, 1), ("heal", 1, 3))
        self.on(("close", 1, 3, 8), ("open", 1, 3, 5), ("lay_over", 1, 3, clip(23, 1)), ("lay_over", 1, 7, nest(5, 1)),
                ("heal", 1, 3), ("heal", 1, 8))
        self.on(("close", 1, 4, 7), ("open", 1, 4, 3))
        self.on(("close", 1, 5, 6), ("open", 1, 5, 1))
        self.on(("close", 1, 15, HUGE), ("open", 1, 15, HUGE - 15), ("lay_over", 1, 15, clip(6, 1, 1, "sky")), ("heal", 1, 15))
        self.on(("close", 1, 16, 20), ("open", 1, 16, 4))
        self.on(("close", 1, HUGE, HUGE + 9), ("open", 1, HUGE, 9))
        self.on(("close", 1, 5, 12), ("open", 1, 5, 7), ("lay_over", 1, 7, nest(5, 4)),
                ("lay_over", 1, 11, clip(2, 1, 1, "sky")), ("heal", 1, 12))

    def test_rolls(self):
        table = table_of([SKY], [clip(20, 4), clip(30, 4), clip(40, 4)])
        for by in (-3, -1, 0, 1, 3):
            self.back(table, ("roll", 1, 4, by), [("roll", 1, 4 + by, -by)])
            self.back(table, ("slip", 1, 5, by), [("slip", 1, 5, -by)])
            for moment in (4, 5, 7):
                self.back(table, ("slide", 1, moment, by), [("slide", 1, moment + by, -by)])


class TestTied(Backs):
    tracks = ([clip(20, 8)], [gap(3), SKY], [nest(0, 6)], [clip(60, 8)], [])

    def table(self, tied=(0, 1, 2, 4)):
        return table_of(*self.tracks, tied=tied)

    def test_heals_of_the_own_track_first(self):
        for deed in (("lay_in", 2, 4, clip(40, 2)), ("open", 2, 4, 2)):
            self.back(self.table(), deed, [("close", 2, 4, 6), ("heal", 2, 4), ("heal", 0, 4), ("heal", 1, 4)])
            self.back(self.table((0, 2, 3)), deed, [("close", 2, 4, 6), ("heal", 2, 4), ("heal", 0, 4), ("heal", 3, 4)])
            self.back(self.table((0, 1, 3)), deed, [("close", 2, 4, 6), ("heal", 2, 4)])
            self.back(self.table(()), deed, [("close", 2, 4, 6), ("heal", 2, 4)])
        self.back(self.table(), ("open", 4, 3, 9), [("close", 4, 3, 12), ("heal", 0, 3), ("heal", 2, 3)])
        self.back(self.table(), ("lay_in", 1, 0, SKY), [("close", 1, 0, 3)])
        self.back(self.table(), ("lay_in", 1, 6, SKY), [("close", 1, 6, 9), ("heal", 0, 6)])

    def test_close(self):
        own = [("lay_over", 2, 2, nest(2, 3)), ("heal", 2, 2), ("heal", 2, 5)]
        first = [("lay_over", 0, 2, clip(22, 3)), ("heal", 0, 2), ("heal", 0, 5)]
        second = [("lay_over", 1, 3, clip(2, 2, 1, "sky")), ("heal", 1, 5)]
        last = [("lay_over", 3, 2, clip(62, 3)), ("heal", 3, 2), ("heal", 3, 5)]
        deed = ("close", 2, 2, 5)
        self.back(self.table(), deed, [("open", 2, 2, 3)] + own + first + second)
        self.back(self.table((0, 1, 2, 3)), deed, [("open", 2, 2, 3)] + own + first + second + last)
        self.back(self.table((2, 3)), deed, [("open", 2, 2, 3)] + own + last)
        self.back(self.table((0, 1, 3)), deed, [("open", 2, 2, 3)] + own)
        self.back(self.table(), ("close", 4, 2, 5), [("open", 4, 2, 3)] + first + second + own)

    def test_other_deeds_have_nothing_to_do_with_it(self):
        lift = [("lay_over", 2, 2, nest(2, 3)), ("heal", 2, 2), ("heal", 2, 5)]
        self.back(self.table(), ("lift", 2, 2, 5), lift)
        self.back(self.table(), ("lay_over", 2, 2, SKY), [("lift", 2, 2, 5)] + lift)


class TestMixesBeside(Backs):
    """The span of the mix goes from 5 to 8: the deeds begin where it ends, or end where it begins."""

    def test_leads_back(self):
        table = table_of([clip(20, 6), mix(3), clip(50, 6)], [clip(30, 6), mix(3), clip(40, 6)], tied=[0, 1])
        some = [("cut", 0, 5), ("cut", 0, 8), ("open", 0, 5, 2), ("open", 0, 8, 2), ("lay_in", 0, 8, SKY), ("close", 0, 2, 5),
                ("close", 0, 8, 10), ("close", 0, 8, 99), ("lift", 0, 0, 5), ("lift", 0, 8, 12), ("lay_over", 0, 2, SKY),
                ("lay_over", 0, 8, SKY), ("unmix", 0, 6)]
        for deed in some:
            self.back(table, deed, back_by_model(table, deed))


class TestAllDeeds(Backs):
    def test_against_the_model(self):
        rng = random.Random(24)
        seen = set()
        for _ in range(14):
            table = random_table(rng)
            before = copied(table)
            for deed in all_deeds(table, LAID):
                told = outcome(back_of, table, deed, REELS)
                self.assertEqual(table, before)
                if isinstance(told, tuple):
                    self.assertEqual(told, outcome(deed_done, table, deed, REELS), deed)
                else:
                    seen.add(deed[0])
                    self.assertEqual(told, back_by_model(table, deed), (table, deed))
                    self.leads_back(table, deed, told)
        self.assertEqual(len(seen), 12)


class TestRefused(unittest.TestCase):
    def test_as_the_deed(self):
        table = table_of([clip(20, 4), mix(2), clip(24, 4), clip(28, 4), clip(40, 4)], [SKY])
        some = [
            (NoPlace, ("cut", 0, 8)), (NoPlace, ("heal", 0, 12)), (NoPlace, ("unmix", 0, 8)), (NoPlace, ("mix", 0, 4, 1)),
            (NoPlace, ("close", 0, 3, 3)), (NoPlace, ("lift", 0, 3, 2)), (NoPlace, ("open", 0, 3, 0)), (NoPlace, ("roll", 0, 7, 1)),
            (NoPlace, ("slip", 0, 16, 1)), (NoPlace, ("slide", 0, 13, 1)), (NoClip, ("lay_in", 0, 0, gap(3))),
            (NoClip, ("lay_over", 0, 0, clip(99, 2))), (Mixed, ("lay_in", 0, 4, SKY)), (Mixed, ("lay_over", 0, 2, SKY)),
            (Mixed, ("open", 0, 4, 1)), (Mixed, ("close", 0, 0, 4)), (Mixed, ("lift", 0, 4, 5)), (Mixed, ("heal", 0, 4)),
            (Mixed, ("roll", 0, 4, 1)), (Mixed, ("slip", 0, 0, 1)), (Mixed, ("slide", 0, 4, 1)), (Short, ("slip", 0, 12, 99)),
        ]
        for number in NO_NUMBERS + (2,):
            some += [(NoPlace, ("cut", number, 1)), (NoPlace, ("lay_in", number, 1, SKY)), (NoPlace, ("close", number, 1, 2))]
        for kind, deed in some:
            with self.subTest(deed=deed):
                with self.assertRaises(kind) as caught:
                    back_of(table, deed, REELS)
                self.assertIs(type(caught.exception), kind)

    def test_short_tells_the_most(self):
        for most, deed in ((9, ("mix", 0, 4, 10)), (5, ("roll", 0, 4, 6)), (-3, ("roll", 0, 4, -4)), (76, ("slip", 0, 0, 77))):
            with self.assertRaises(Short) as caught:
                back_of(table_of([clip(20, 4), clip(40, 6)]), deed, REELS)
            self.assertEqual(caught.exception.most, most)


class TestNothingIsChanged(unittest.TestCase):
    def made(self):
        return table_of([clip(20, 4), clip(24, 4), gap(2), clip(40, 4)], [nest(0, 9)], tied=[0, 1])

    def test_all_stays(self):
        some = [("cut", 0, 2), ("heal", 0, 4), ("lay_in", 0, 2, SKY), ("open", 0, 2, 3), ("close", 0, 2, 7), ("lift", 0, 2, 7),
                ("lay_over", 0, 2, SKY), ("mix", 0, 4, 2), ("slip", 0, 2, 1), ("lay_in", 0, 2, None), ("cut", 0, 4)]
        table = self.made()
        reels = dict(REELS)
        for deed in some:
            outcome(back_of, table, deed, reels)
            self.assertEqual((table, reels), (self.made(), REELS), deed)

    def test_the_told_list_is_the_askers_own(self):
        table = self.made()
        for deed in (("close", 0, 2, 7), ("lift", 0, 2, 7), ("cut", 0, 2), ("lift", 0, 50, 60)):
            right = back_of(self.made(), deed, REELS)
            told = back_of(table, deed, REELS)
            told.append(("cut", 0, 0))
            self.assertEqual(back_of(table, deed, REELS), right)
            told = back_of(table, deed, REELS)
            for track in table[0]:
                track.clear()
            self.assertEqual(told, right)
            table = self.made()


if __name__ == "__main__":
    unittest.main()
