"""Points 2 and 10 to 12: the one form of a track, its length, borders and items."""

import inspect
import itertools
import unittest

from reelcut import tracks
from reelcut.tracks import borders_of, item_at, length_of, one_form

LONG = 10**12
CLIP = ("clip", "sea", (7, 2), (-1, 2), 3)
OTHER = ("clip", "sky", (0, 1), (1, 1), 1)
NEST = ("nest", "intro", 4, 2)
ARGUMENTS = {
    "one_form": ["some"],
    "length_of": ["track"],
    "item_at": ["track", "moment"],
    "borders_of": ["track"],
}


def gap(length):
    return ("gap", length)


def mix(length):
    return ("mix", length)


def some_lists():
    """All short rows of items with gaps anywhere, and with a mix between each two neighbouring clips."""
    for many in range(6):
        for row in itertools.product((CLIP, OTHER, NEST, gap(0), gap(1), gap(2)), repeat=many):
            yield list(row)
            mixed = with_mixes(row)
            if len(mixed) > len(row):
                yield mixed


def with_mixes(row):
    mixed = []
    for item in row:
        if mixed and mixed[-1][0] == "clip" and item[0] == "clip":
            mixed.append(mix(1))
        mixed.append(item)
    return mixed


def some_tracks():
    yield []
    yield [CLIP]
    yield [OTHER]
    yield [NEST]
    yield [gap(3), CLIP]
    yield [CLIP, OTHER, NEST]
    yield [CLIP, mix(2), OTHER, mix(1), CLIP]
    yield [gap(1), OTHER, mix(1), CLIP, gap(2), NEST, gap(1), NEST, CLIP, mix(5), CLIP]
    yield [NEST, gap(4), OTHER, mix(2), OTHER, OTHER]


def laid_out(row):
    """What lies at each moment: the number and the item of each one that is no mix, and how far the moment is in it."""
    moments = []
    for place, item in enumerate(row):
        if item[0] != "mix":
            moments.extend((place, item, far) for far in range(item[-1]))
    return moments


class TestInterface(unittest.TestCase):
    def test_arguments_bear_their_names(self):
        for name, arguments in ARGUMENTS.items():
            with self.subTest(name=name):
                self.assertEqual(list(inspect.signature(getattr(tracks, name)).parameters), arguments)


class TestOneForm(unittest.TestCase):
    def formed(self, some, track):
        with self.subTest(some=some):
            told = one_form(some)
            self.assertIsInstance(told, list)
            self.assertEqual(told, track)
            self.assertEqual(one_form(told), track)

    def test_without_items(self):
        self.formed([], [])

    def test_gaps_alone(self):
        self.formed([gap(0)], [])
        self.formed([gap(1)], [])
        self.formed([gap(LONG)], [])
        self.formed([gap(2), gap(0), gap(3)], [])

    def test_neighbouring_gaps_become_one(self):
        self.formed([gap(1), gap(2), CLIP], [gap(3), CLIP])
        self.formed([CLIP, gap(1), gap(2), gap(3), NEST], [CLIP, gap(6), NEST])
        self.formed([CLIP, gap(2), gap(2), CLIP, gap(1), gap(4), CLIP], [CLIP, gap(4), CLIP, gap(5), CLIP])
        self.formed([gap(LONG), gap(1), CLIP], [gap(LONG + 1), CLIP])

    def test_gaps_of_nought_go(self):
        self.formed([gap(0), CLIP], [CLIP])
        self.formed([CLIP, gap(0), OTHER], [CLIP, OTHER])
        self.formed([CLIP, gap(0), gap(0), NEST], [CLIP, NEST])
        self.formed([CLIP, gap(0)], [CLIP])
        self.formed([gap(0), CLIP, mix(2), CLIP, gap(0)], [CLIP, mix(2), CLIP])

    def test_gaps_of_nought_among_others(self):
        self.formed([gap(1), gap(0), gap(2), CLIP], [gap(3), CLIP])
        self.formed([CLIP, gap(0), gap(2), CLIP], [CLIP, gap(2), CLIP])
        self.formed([CLIP, gap(2), gap(0), CLIP], [CLIP, gap(2), CLIP])

    def test_gaps_at_the_end_go(self):
        self.formed([CLIP, gap(5)], [CLIP])
        self.formed([CLIP, gap(5), gap(1)], [CLIP])
        self.formed([gap(2), NEST, gap(0), gap(3), gap(0)], [gap(2), NEST])

    def test_a_gap_ahead_of_the_first_item_stays(self):
        self.formed([gap(2), CLIP], [gap(2), CLIP])
        self.formed([gap(2), NEST, gap(1), CLIP], [gap(2), NEST, gap(1), CLIP])

    def test_clips_nests_and_mixes_stay_as_they_are(self):
        self.formed([CLIP, CLIP], [CLIP, CLIP])
        self.formed([NEST, NEST, NEST], [NEST, NEST, NEST])
        self.formed([CLIP, mix(3), OTHER, NEST, gap(1)], [CLIP, mix(3), OTHER, NEST])
        self.formed([gap(1), CLIP, mix(1), OTHER, mix(2), CLIP], [gap(1), CLIP, mix(1), OTHER, mix(2), CLIP])

    def test_a_clip_that_goes_on_in_the_next_one_stays_two(self):
        halves = [("clip", "sea", (0, 1), (1, 1), 4), ("clip", "sea", (4, 1), (1, 1), 4)]
        self.formed(halves, halves)
        nests = [("nest", "intro", 0, 3), ("nest", "intro", 3, 3)]
        self.formed(nests, nests)

    def test_all_short_lists(self):
        for some in some_lists():
            track = one_form(some)
            self.assertEqual([item for item in track if item[0] != "gap"], [item for item in some if item[0] != "gap"])
            words = [item[0] for item in track]
            self.assertNotIn(("gap", "gap"), list(zip(words, words[1:])))
            self.assertNotEqual(words[-1:], ["gap"])
            self.assertNotIn(gap(0), track)
            before = [(item, far) for place, item, far in laid_out(some) if item[0] != "gap"]
            self.assertEqual([(item, far) for place, item, far in laid_out(track) if item[0] != "gap"], before)
            begins = [k for k, (place, item, far) in enumerate(laid_out(some)) if item[0] != "gap"]
            self.assertEqual([k for k, (place, item, far) in enumerate(laid_out(track)) if item[0] != "gap"], begins)
            self.assertEqual(one_form(track), track)


class TestLength(unittest.TestCase):
    def test_written_ones(self):
        self.assertEqual(length_of([]), 0)
        self.assertEqual(length_of([CLIP]), 3)
        self.assertEqual(length_of([gap(4), NEST]), 6)
        self.assertEqual(length_of([CLIP, mix(2), OTHER, mix(1), CLIP]), 7)
        self.assertEqual(length_of([gap(LONG), ("nest", "a", LONG, LONG)]), 2 * LONG)

    def test_as_laid_out(self):
        for track in some_tracks():
            self.assertEqual(length_of(track), len(laid_out(track)))


class TestBorders(unittest.TestCase):
    def test_written_ones(self):
        self.assertEqual(borders_of([]), [0])
        self.assertEqual(borders_of([CLIP]), [0, 3])
        self.assertEqual(borders_of([gap(4), NEST, NEST]), [0, 4, 6, 8])
        self.assertEqual(borders_of([CLIP, mix(2), OTHER, mix(1), CLIP]), [0, 3, 4, 7])
        self.assertEqual(borders_of([gap(LONG), OTHER, gap(LONG), CLIP]), [0, LONG, LONG + 1, 2 * LONG + 1, 2 * LONG + 4])

    def test_as_laid_out(self):
        for track in some_tracks():
            moments = laid_out(track)
            begins = [k for k, (place, item, far) in enumerate(moments) if far == 0]
            self.assertEqual(borders_of(track), begins + [len(moments)])

    def test_they_rise_from_nought_to_the_end(self):
        for track in some_tracks():
            told = borders_of(track)
            self.assertEqual(told, sorted(set(told)))
            self.assertEqual((told[0], told[-1]), (0, length_of(track)))


class TestItemAt(unittest.TestCase):
    def test_nothing_is_on_the_track_without_items(self):
        for moment in (0, 1, LONG):
            self.assertIsNone(item_at([], moment))

    def test_about_the_borders(self):
        track = [gap(2), CLIP, NEST]
        told = [item_at(track, moment) for moment in range(8)]
        self.assertEqual(told, [(0, 0), (0, 1), (1, 0), (1, 1), (1, 2), (2, 0), (2, 1), None])

    def test_a_mix_is_passed_over_but_counted(self):
        track = [CLIP, mix(2), OTHER, mix(1), CLIP]
        told = [item_at(track, moment) for moment in range(8)]
        self.assertEqual(told, [(0, 0), (0, 1), (0, 2), (2, 0), (4, 0), (4, 1), (4, 2), None])

    def test_as_laid_out(self):
        for track in some_tracks():
            for moment, (place, item, far) in enumerate(laid_out(track)):
                self.assertEqual(item_at(track, moment), (place, far))
            for moment in (-1, -LONG):
                self.assertIsNone(item_at(track, moment))
            for beyond in (0, 1, 2, 100, LONG):
                self.assertIsNone(item_at(track, length_of(track) + beyond))

    def test_great_lengths(self):
        track = [("nest", "a", 0, LONG), gap(LONG), ("clip", "sea", (0, 1), (0, 1), LONG)]
        self.assertEqual(item_at(track, LONG - 1), (0, LONG - 1))
        self.assertEqual(item_at(track, LONG), (1, 0))
        self.assertEqual(item_at(track, LONG + 1), (1, 1))
        self.assertEqual(item_at(track, 2 * LONG - 1), (1, LONG - 1))
        self.assertEqual(item_at(track, 2 * LONG), (2, 0))
        self.assertEqual(item_at(track, 3 * LONG - 1), (2, LONG - 1))
        self.assertIsNone(item_at(track, 3 * LONG))
        self.assertIsNone(item_at(track, 3 * LONG + 1))


class TestNothingIsChanged(unittest.TestCase):
    def test_what_is_handed_in_is_the_same_behind_each_call(self):
        for some in ([], [CLIP], [gap(1), gap(0), CLIP, mix(1), OTHER, gap(2), NEST, gap(0), gap(5)]):
            before = list(some)
            one_form(some)
            length_of(some)
            borders_of(some)
            for moment in (0, 1, 3, 5, 100):
                item_at(some, moment)
            self.assertEqual(some, before)

    def test_a_told_track_is_the_asker_s_own(self):
        for some in ([], [CLIP], [CLIP, mix(1), OTHER], [gap(1), gap(2), CLIP, gap(1)]):
            before = list(some)
            told = one_form(some)
            right = list(told)
            told.append(NEST)
            told[0] = gap(9)
            self.assertEqual(some, before)
            self.assertEqual(one_form(some), right)

    def test_a_list_that_is_changed_behind_the_call_changes_no_told_track(self):
        some = [CLIP, OTHER]
        told = one_form(some)
        some.append(NEST)
        some[0] = gap(1)
        self.assertEqual(told, [CLIP, OTHER])

    def test_told_borders_are_the_asker_s_own(self):
        for track in some_tracks():
            told = borders_of(track)
            right = list(told)
            told[0] = 7
            told.append(1)
            self.assertEqual(borders_of(track), right)


if __name__ == "__main__":
    unittest.main()
