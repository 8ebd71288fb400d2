"""Points 2 and 31: numbers, fractions, items and tracks shown as texts, and read from them."""

import inspect
import itertools
import random
import re
import unittest
from fractions import Fraction

from helper import clip, gap, mix, nest, outcome, pair, random_track
from reelcut import texts
from reelcut.errors import NoText
from reelcut.texts import read_fraction, read_item, read_number, read_track
from reelcut.texts import show_fraction, show_item, show_number, show_track

MOST = 10**60 - 1
ARGUMENTS = {
    "show_number": ["number"], "show_fraction": ["one"], "show_item": ["item"], "show_track": ["track"],
    "read_number": ["text"], "read_fraction": ["text"], "read_item": ["text"], "read_track": ["text"],
}
READS = (read_number, read_fraction, read_item, read_track)
NO_TEXTS = (None, True, False, 0, 5, -5, 0.5, b"5", b"", ["5"], [], ("5",), (), (1, 2), {}, {"5": "5"}, gap(5), [gap(5)])
NO_NUMBERS = (
    "", "-", "--5", "+5", "+0", "-0", "-00", "00", "01", "-01", "007", " 5", "5 ", " ", "- 5", "5 5", "5\n", "\n5", "5\t", "\n", "1_0",
    "1,0", "1.0", "5.", "1e3", "0x5", "a", "5a", "a5", "five", "5-", "5-5", "1/2", "5/1", "\u0665", "\u0665\u0665", "1\u0665", "\u00b2",
    "\uff15", "\u2212" + "5", "\u0be7", "1" + "0" * 60, "-1" + "0" * 60, "9" * 61, "0" * 60, "0" * 61, "-" + "9" * 61, "9" * 5000,
)
NO_FRACTIONS = (
    "", "/", "1/", "/2", "1//2", "1/2/3", "1/2/", "/1/2", "1/1", "5/1", "0/1", "-5/1", "1/0", "0/0", "5/0", "1/-2", "-1/-2", "1/+2",
    "+1/2", "2/4", "-2/4", "0/5", "-0/5", "6/3", "3/6", "10/4", "01/2", "1/02", "1/00", "1 /2", "1/ 2", " 1/2", "1/2 ", "1 2", "1/2\n",
    "1/2.", "1.5", "1/a", "a/2", "1/\u0662", "\u0661/2", "1\\2", "1:2", "1/" + "9" * 61, "1" + "0" * 60 + "/7", "2/" + "1" + "0" * 60,
)
NO_NAMES = ("", "A", "Sea", "seA", "sea1", "1", "abcdefghi", "se-a", "s_a", "\u00e9", "\u00df", "sea\n", "\uff53")
NUMBER = r"(?:0|-?[1-9][0-9]{0,59})"
FROM_ONE = r"[1-9][0-9]{0,59}"
FROM_NOUGHT = rf"(?:0|{FROM_ONE})"
FRACTION = rf"{NUMBER}(?:/{FROM_ONE})?"
NAME = r"[a-z]{1,8}"
ITEMS = (
    rf"clip {NAME} ({FRACTION}) ({FRACTION}) {FROM_ONE}", rf"nest {NAME} {FROM_NOUGHT} {FROM_ONE}", rf"gap {FROM_ONE}", rf"mix {FROM_ONE}",
)


def fraction_by_model(text):
    """The fraction that a text shows, or None."""
    if not re.fullmatch(FRACTION, text):
        return None
    found = Fraction(text)
    return found if text == str(found) else None


def word_by_model(word):
    if re.fullmatch(NAME, word):
        return word
    return int(word)


def item_by_model(text):
    """The item that a text shows, or None."""
    found = [re.fullmatch(form, text) for form in ITEMS]
    if not any(found):
        return None
    if found[0]:
        one, other = [fraction_by_model(part) for part in found[0].groups()]
        words = text.split(" ")
        return None if one is None or other is None else ("clip", words[1], pair(one), pair(other), int(words[-1]))
    return tuple(word_by_model(word) for word in text.split(" "))


def track_by_model(text):
    """The track that a text shows, or None."""
    items = [item_by_model(part) for part in text.split("; ")] if text else []
    if None in items:
        return None
    kinds = ["start"] + [item[0] for item in items] + ["end"]
    for ahead, kind, behind in zip(kinds, kinds[1:], kinds[2:]):
        if kind == "gap" and behind in ("gap", "end") or kind == "mix" and (ahead, behind) != ("clip", "clip"):
            return None
    return items


def near(text, signs):
    """All texts that come of a text by putting in, leaving out or changing one sign."""
    for place in range(len(text) + 1):
        for sign in signs:
            yield text[:place] + sign + text[place:]
            yield text[:place] + sign + text[place + 1:]
        yield text[:place] + text[place + 1:]


class TestInterface(unittest.TestCase):
    def test_arguments_bear_their_names(self):
        for name, arguments in ARGUMENTS.items():
            self.assertEqual(list(inspect.signature(getattr(texts, name)).parameters), arguments)


class Texts(unittest.TestCase):
    def shown(self, show, read, thing, text):
        with self.subTest(thing=thing):
            told = show(thing)
            self.assertEqual(told, text)
            self.assertIsInstance(told, str)
            back = read(text)
            self.assertEqual(repr(back), repr(thing))

    def refused(self, read, text):
        with self.subTest(read=read, text=text):
            with self.assertRaises(NoText) as caught:
                read(text)
            self.assertIs(type(caught.exception), NoText)

    def as_model(self, read, text, right):
        told = outcome(read, text)
        self.assertEqual(repr(told), repr((NoText, {}) if right is None else right), repr(text))


class TestNumbers(Texts):
    def test_shown_and_read(self):
        for number, text in (
            (0, "0"), (1, "1"), (-1, "-1"), (9, "9"), (10, "10"), (-10, "-10"), (100, "100"), (1007, "1007"), (-25, "-25"),
            (MOST, "9" * 60), (-MOST, "-" + "9" * 60), (10**59, "1" + "0" * 59), (-(10**59), "-1" + "0" * 59),
        ):
            self.shown(show_number, read_number, number, text)

    def test_of_each_many_figures(self):
        rng = random.Random(31)
        for many in range(1, 61):
            for number in (10**(many - 1), 10**many - 1, rng.randint(10**(many - 1), 10**many - 1)):
                self.shown(show_number, read_number, number, str(number))
                self.shown(show_number, read_number, -number, "-" + str(number))

    def test_no_numbers(self):
        for text in NO_NUMBERS:
            self.refused(read_number, text)

    def test_all_short_texts(self):
        for many in range(5):
            for signs in itertools.product("0159-+ /", repeat=many):
                text = "".join(signs)
                self.as_model(read_number, text, int(text) if re.fullmatch(NUMBER, text) else None)

    def test_each_sign(self):
        for sign in [chr(code) for code in range(0x3000)] + ["\uff10", "\U0001d7ce", "\U0001f101"]:
            right = int(sign) if sign in "0123456789" else None
            self.as_model(read_number, sign, right)
            self.as_model(read_number, "1" + sign, None if right is None else 10 + right)


class TestFractions(Texts):
    def test_shown_and_read(self):
        for one, text in (
            ((0, 1), "0"), ((1, 1), "1"), ((-1, 1), "-1"), ((25, 1), "25"), ((1, 2), "1/2"), ((-1, 2), "-1/2"), ((7, 3), "7/3"),
            ((-70, 30001), "-70/30001"), ((30000, 1001), "30000/1001"), ((MOST, 1), "9" * 60), ((MOST, 10**59), "9" * 60 + "/1" + "0" * 59),
            ((-MOST, 2), "-" + "9" * 60 + "/2"), ((1, MOST), "1/" + "9" * 60), ((-(10**59), MOST), "-1" + "0" * 59 + "/" + "9" * 60),
        ):
            self.shown(show_fraction, read_fraction, one, text)

    def test_many(self):
        for top in range(-12, 13):
            for bottom in range(1, 13):
                found = Fraction(top, bottom)
                self.shown(show_fraction, read_fraction, pair(found), str(found))

    def test_no_fractions(self):
        for text in NO_FRACTIONS:
            self.refused(read_fraction, text)

    def test_what_shows_no_number_shows_no_fraction(self):
        for text in NO_NUMBERS:
            if text != "1/2":
                self.refused(read_fraction, text)
                self.refused(read_fraction, text + "/7")
                self.refused(read_fraction, "7/" + text)

    def test_all_short_texts(self):
        for many in range(6):
            for signs in itertools.product("0124-/", repeat=many):
                text = "".join(signs)
                found = fraction_by_model(text)
                self.as_model(read_fraction, text, None if found is None else pair(found))


class TestItems(Texts):
    def test_shown_and_read(self):
        for item, text in (
            (clip(0, 1, 0), "clip sea 0 0 1"), (clip(20, 8), "clip sea 20 1 8"), (clip(Fraction(9, 2), 3, Fraction(-1, 3), "sky"), "clip sky 9/2 -1/3 3"),
            (clip(-4, 2, -1, "a"), "clip a -4 -1 2"), (clip(-MOST, MOST, Fraction(1, MOST), "abcdefgh"), f"clip abcdefgh -{MOST} 1/{MOST} {MOST}"),
            (nest(0, 1), "nest inner 0 1"), (nest(17, 40, "z"), "nest z 17 40"), (nest(MOST, MOST, "clip"), f"nest clip {MOST} {MOST}"),
            (gap(1), "gap 1"), (gap(MOST), f"gap {MOST}"), (mix(1), "mix 1"), (mix(20), "mix 20"), (mix(MOST), f"mix {MOST}"),
            (clip(0, 1, 1, "gap"), "clip gap 0 1 1"), (nest(0, 1, "mix"), "nest mix 0 1"),
        ):
            self.shown(show_item, read_item, item, text)

    def test_names(self):
        for name in NO_NAMES:
            self.refused(read_item, f"clip {name} 0 1 1")
            self.refused(read_item, f"nest {name} 0 1")

    def test_numbers(self):
        for text in NO_NUMBERS + ("0", "-1", f"-{MOST}"):
            for item in ("clip sea 0 1 {}", "nest sea 0 {}", "gap {}", "mix {}"):
                self.refused(read_item, item.replace("{}", text))
            if text != "0":
                self.refused(read_item, f"nest sea {text} 1")
        for text in NO_FRACTIONS:
            self.refused(read_item, f"clip sea {text} 1 1")
            self.refused(read_item, f"clip sea 1 {text} 1")

    def test_fractions_where_numbers_stand(self):
        for text in ("clip sea 0 1 1/2", "clip sea 0 1 3/2", "nest sea 1/2 3", "nest sea 1 3/2", "gap 3/2", "mix 3/2"):
            self.refused(read_item, text)

    def test_words(self):
        for text in (
            "", " ", "clip", "nest", "gap", "mix", "clip ", "gap ", "clip sea", "clip sea 0", "clip sea 0 1", "clip sea 0 1 1 1", "clip 0 1 1",
            "clip sea 0 1 1 ", " clip sea 0 1 1", "clip  sea 0 1 1", "clip sea  0 1 1", "clip sea 0  1 1", "clip sea 0 1  1", "clip\tsea 0 1 1",
            "clip sea 0 1 1\n", "clip sea 0,1 1 1", "nest sea 0", "nest sea 0 1 1", "nest 0 1", "nest  sea 0 1", "gap 1 1", "gap  1", " gap 1",
            "gap 1 ", "gap1", "mix 1 1", "mix  1", "Clip sea 0 1 1", "CLIP sea 0 1 1", "Gap 1", "hole 1", "end", "end 1", "1 gap", "gap 1; ", "; gap 1",
            "gap 1; gap 1", "clip sea 0 1 1; clip sea 0 1 1", "nest sea 0 1;", "('gap', 1)", "gap gap 1", "sea 0 1 1",
        ):
            self.refused(read_item, text)

    def test_texts_near_one_that_shows_an_item(self):
        for text in ("clip sea 10/3 -1 12", "clip a 0 1/2 1", "nest sea 10 21", "nest abcdefgh 0 1", "gap 10", "mix 1", "gap " + "9" * 60):
            self.assertIsNotNone(item_by_model(text))
            for other in near(text, "0129aZ-/ ;\n"):
                self.as_model(read_item, other, item_by_model(other))


class TestTracks(Texts):
    def test_shown_and_read(self):
        for track, text in (
            ([], ""), ([clip(20, 8)], "clip sea 20 1 8"), ([nest(0, 1)], "nest inner 0 1"), ([gap(3), nest(2, 1)], "gap 3; nest inner 2 1"),
            ([clip(20, 4), mix(3), clip(5, 2, Fraction(1, 2), "sky")], "clip sea 20 1 4; mix 3; clip sky 5 1/2 2"),
            ([gap(1), clip(2, 3), gap(MOST), clip(2, 3), clip(5, 1), mix(1), clip(7, 9), mix(MOST), clip(0, 1, 0), nest(0, 2), nest(2, 2)],
             f"gap 1; clip sea 2 1 3; gap {MOST}; clip sea 2 1 3; clip sea 5 1 1; mix 1; clip sea 7 1 9; mix {MOST}; clip sea 0 0 1; nest inner 0 2; "
             "nest inner 2 2"),
        ):
            self.shown(show_track, read_track, track, text)

    def test_not_in_the_one_form(self):
        first, second, other = "clip sea 20 1 4", "clip sea 50 1 4", "nest inner 0 4"
        for items in (
            ["gap 1"], [first, "gap 1"], [other, "gap 1"], ["gap 1", "gap 2", first], [first, "gap 1", "gap 1", second], ["mix 1"], [first, "mix 1"],
            ["mix 1", first], [first, "mix 1", other], [other, "mix 1", first], [other, "mix 1", other], [first, "mix 1", "gap 1", second],
            [first, "gap 1", "mix 1", second], [first, "mix 1", "mix 1", second], [first, "mix 1", second, "mix 1"], ["mix 1", first, "mix 1", second],
            [first, "gap 0", second], ["gap 0"], [first, "mix 0", second], [first, "gap 1", second, "gap 1"],
        ):
            self.refused(read_track, "; ".join(items))

    def test_what_stands_between_items(self):
        for text in (
            " ", ";", "; ", ";  ", "gap 1;nest a 0 1", "gap 1 ; nest a 0 1", "gap 1;  nest a 0 1", "gap 1, nest a 0 1", "gap 1;\nnest a 0 1",
            "gap 1; ; nest a 0 1", "gap 1; nest a 0 1; ", "gap 1; nest a 0 1;", "; nest a 0 1", ";nest a 0 1", " nest a 0 1", "nest a 0 1 ",
            "nest a 0 1\n", "\n", "gap 1 nest a 0 1", "gap 1\nnest a 0 1", "[]", "nest a 0 1; nest A 0 1", "nest a 0 1; end", "nest A 0 1; nest a 0 1",
        ):
            self.refused(read_track, text)

    def test_a_text_that_shows_no_item(self):
        for text in ("clip sea 01 1 1", "nest a -1 1", "nest a 0 0", "clip sea 2/4 1 1", "hole 1", "gap 1 1", "clip Sea 0 1 1"):
            for items in ([text], [text, "nest a 0 1"], ["nest a 0 1", text], ["nest a 0 1", text, "nest a 0 1"]):
                self.refused(read_track, "; ".join(items))

    def test_all_short_tracks(self):
        items = ("clip sea 2 1 3", "nest a 0 2", "gap 4", "mix 2")
        for many in range(5):
            for some in itertools.product(items, repeat=many):
                self.as_model(read_track, "; ".join(some), track_by_model("; ".join(some)))

    def test_texts_near_one_that_shows_a_track(self):
        text = "gap 2; clip a 1 1 2; mix 2; clip a 9/2 1 2; nest b 0 1"
        self.assertIsNotNone(track_by_model(text))
        for other in near(text, "012a/; "):
            self.as_model(read_track, other, track_by_model(other))

    def test_tracks_at_random(self):
        rng = random.Random(32)
        for _ in range(300):
            track = random_track(rng)
            text = show_track(track)
            self.assertEqual(text, "; ".join([show_item(item) for item in track]))
            self.assertEqual(read_track(text), track)
            self.assertEqual(track_by_model(text), track)


class TestWhatIsNoText(Texts):
    def test_by_each_that_reads(self):
        for read in READS:
            for thing in NO_TEXTS:
                self.refused(read, thing)


class TestNothingIsChanged(unittest.TestCase):
    def test_what_is_handed_in_stays(self):
        track = [gap(1), clip(20, 4), mix(2), clip(30, 4)]
        before = list(track)
        show_track(track)
        self.assertEqual(track, before)
        things = (["5"], {"5": "5"})
        for thing in things:
            for read in READS:
                outcome(read, thing)
        self.assertEqual(things, (["5"], {"5": "5"}))

    def test_a_track_that_was_read_is_the_askers_own(self):
        for text in ("", "gap 1; nest a 0 1"):
            right = track_by_model(text)
            told = read_track(text)
            told.append(gap(1))
            told[0] = gap(9)
            self.assertEqual(read_track(text), right)


if __name__ == "__main__":
    unittest.main()
