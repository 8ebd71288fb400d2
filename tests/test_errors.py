"""Point 2 and the interface: the classes of refusals."""

import inspect
import unittest

from reelcut import errors
from reelcut.errors import CutError, NoList, Short

PLAIN = ("NoNumber", "NoClip", "NoPlace", "Mixed", "NoRoom", "TooMuch", "NoText", "NoOrder")
WITH_FIELD = ("Short", "NoList")


def made(name):
    kind = getattr(errors, name)
    return kind(3) if name in WITH_FIELD else kind("words")


class TestErrors(unittest.TestCase):
    def test_cut_error_stands_straight_under_value_error(self):
        self.assertEqual(CutError.__bases__, (ValueError,))

    def test_each_stands_straight_under_cut_error(self):
        for name in PLAIN + WITH_FIELD:
            with self.subTest(name=name):
                self.assertEqual(getattr(errors, name).__bases__, (CutError,))

    def test_there_are_no_others(self):
        names = [name for name, thing in vars(errors).items() if inspect.isclass(thing)]
        self.assertEqual(sorted(names), sorted(PLAIN + WITH_FIELD + ("CutError",)))

    def test_each_is_taken_by_cut_error_and_by_value_error(self):
        for name in PLAIN + WITH_FIELD:
            for kind in (CutError, ValueError):
                with self.subTest(name=name, kind=kind):
                    with self.assertRaises(kind):
                        raise made(name)

    def test_none_is_taken_by_another_one(self):
        for name in PLAIN + WITH_FIELD:
            for other in PLAIN + WITH_FIELD:
                with self.subTest(name=name, other=other):
                    self.assertEqual(isinstance(made(name), getattr(errors, other)), name == other)

    def test_plain_ones_are_made_with_and_without_words(self):
        for name in PLAIN + ("CutError",):
            with self.subTest(name=name):
                self.assertIsInstance(getattr(errors, name)(), CutError)
                self.assertIsInstance(getattr(errors, name)("words"), CutError)

    def test_short_has_most(self):
        for most in (0, 7, -7, 10**6):
            self.assertEqual(Short(most).most, most)
        with self.assertRaises(Short) as taken:
            raise Short(-12)
        self.assertEqual(taken.exception.most, -12)

    def test_no_list_has_at(self):
        for at in (0, 1, 60):
            self.assertEqual(NoList(at).at, at)
        with self.assertRaises(NoList) as taken:
            raise NoList(5)
        self.assertEqual(taken.exception.at, 5)

    def test_fields_are_each_object_s_own(self):
        one = Short(1)
        other = Short(2)
        self.assertEqual((one.most, other.most), (1, 2))
        self.assertFalse(hasattr(Short, "most"))
        self.assertFalse(hasattr(NoList, "at"))

    def test_arguments_bear_their_names(self):
        self.assertEqual(list(inspect.signature(Short).parameters), ["most"])
        self.assertEqual(list(inspect.signature(NoList).parameters), ["at"])


if __name__ == "__main__":
    unittest.main()
