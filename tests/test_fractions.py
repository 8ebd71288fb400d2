"""Points 2 and 4: whole numbers and fractions."""

import inspect
import unittest
from fractions import Fraction

from reelcut import fractions
from reelcut.errors import NoNumber
from reelcut.fractions import floor_of, fraction, is_before, is_fraction, is_whole
from reelcut.fractions import less_by, quotient, rest_of, sum_of, times_of

GREAT = 10**60 - 1
NO_WHOLE = (True, False, "1", "", None, [1], [], (1, 1), (), {}, 1.0, 0.5, b"1", 1j, object(), int)
ARGUMENTS = {
    "is_whole": ["x"],
    "is_fraction": ["x"],
    "fraction": ["top", "bottom"],
    "sum_of": ["one", "other"],
    "less_by": ["one", "other"],
    "times_of": ["one", "other"],
    "quotient": ["one", "other"],
    "is_before": ["one", "other"],
    "floor_of": ["one"],
    "rest_of": ["one"],
}


def pair(number):
    return (number.numerator, number.denominator)


def some_numbers():
    small = [Fraction(top, bottom) for top in range(-7, 8) for bottom in range(1, 7)]
    great = [Fraction(GREAT, 10**59 + 7), Fraction(-GREAT, 3), Fraction(1, GREAT), Fraction(-(10**59), GREAT)]
    return sorted(set(small + great))


class TestInterface(unittest.TestCase):
    def test_arguments_bear_their_names(self):
        for name, arguments in ARGUMENTS.items():
            with self.subTest(name=name):
                self.assertEqual(list(inspect.signature(getattr(fractions, name)).parameters), arguments)


class TestWhole(unittest.TestCase):
    def test_ints_are(self):
        for number in (0, 1, -1, 7, GREAT, -GREAT):
            self.assertIs(is_whole(number), True)

    def test_nothing_else_is(self):
        for thing in NO_WHOLE:
            with self.subTest(thing=thing):
                self.assertIs(is_whole(thing), False)


class TestIsFraction(unittest.TestCase):
    def test_lowest_terms_are(self):
        for thing in ((0, 1), (1, 1), (-1, 1), (1, 2), (-7, 2), (9, 4), (GREAT, 1), (GREAT, GREAT + 1), (-1, GREAT)):
            with self.subTest(thing=thing):
                self.assertIs(is_fraction(thing), True)

    def test_not_in_lowest_terms(self):
        for thing in ((2, 2), (0, 2), (0, GREAT), (4, 6), (-4, 6), (-3, 3), (GREAT, GREAT), (2 * GREAT, 2)):
            with self.subTest(thing=thing):
                self.assertIs(is_fraction(thing), False)

    def test_a_bottom_of_nought_or_below(self):
        for thing in ((0, 0), (1, 0), (-1, 0), (2, 0), (1, -1), (1, -2), (-1, -2), (0, -1)):
            with self.subTest(thing=thing):
                self.assertIs(is_fraction(thing), False)

    def test_parts_that_are_no_whole_numbers(self):
        for part in NO_WHOLE:
            with self.subTest(part=part):
                self.assertIs(is_fraction((part, 1)), False)
                self.assertIs(is_fraction((1, part)), False)
                self.assertIs(is_fraction((part, part)), False)

    def test_other_forms(self):
        things = ((), (1,), (1, 1, 1), (1, 2, 3), [1, 2], [0, 1], "12", "1/2", "", None, True, False)
        for thing in things + (0, 1, 0.5, {}, {0: 1, 1: 2}, {1, 2}, Fraction(1, 2), object(), tuple):
            with self.subTest(thing=thing):
                self.assertIs(is_fraction(thing), False)

    def test_what_is_made_is_one(self):
        for top in range(-9, 10):
            for bottom in range(-9, 10):
                if bottom != 0:
                    self.assertIs(is_fraction(fraction(top, bottom)), True)

    def test_each_small_tuple(self):
        for top in range(-9, 10):
            for bottom in range(-9, 10):
                is_one = bottom > 0 and pair(Fraction(top, bottom)) == (top, bottom)
                self.assertIs(is_fraction((top, bottom)), is_one)


class TestFraction(unittest.TestCase):
    def test_written_ones(self):
        for top, bottom, made in (
            (1, 2, (1, 2)), (2, 4, (1, 2)), (-2, 4, (-1, 2)), (2, -4, (-1, 2)), (-2, -4, (1, 2)),
            (0, 1, (0, 1)), (0, 9, (0, 1)), (0, -9, (0, 1)), (6, 3, (2, 1)), (6, -3, (-2, 1)), (-7, 2, (-7, 2)),
        ):
            with self.subTest(top=top, bottom=bottom):
                self.assertEqual(fraction(top, bottom), made)

    def test_small_ones(self):
        for top in range(-20, 21):
            for bottom in range(-20, 21):
                if bottom != 0:
                    self.assertEqual(fraction(top, bottom), pair(Fraction(top, bottom)))

    def test_sixty_figures(self):
        many = (GREAT, 10**59, 10**59 + 7, 2**190, 3**120, 6**77, 360)
        for top in many:
            for bottom in many:
                for sign in (1, -1):
                    self.assertEqual(fraction(top, sign * bottom), pair(Fraction(top, sign * bottom)))

    def test_it_is_a_plain_tuple_of_whole_numbers(self):
        made = fraction(-4, -6)
        self.assertIs(type(made), tuple)
        self.assertEqual([type(part) for part in made], [int, int])

    def test_nought_below_is_refused(self):
        for top in (0, 1, -1, GREAT):
            with self.assertRaises(NoNumber):
                fraction(top, 0)

    def test_what_is_no_whole_number_is_refused(self):
        for thing in NO_WHOLE:
            with self.subTest(thing=thing):
                with self.assertRaises(NoNumber):
                    fraction(thing, 1)
                with self.assertRaises(NoNumber):
                    fraction(1, thing)
                with self.assertRaises(NoNumber):
                    fraction(thing, 0)
                with self.assertRaises(NoNumber):
                    fraction(thing, thing)


class TestReckoning(unittest.TestCase):
    def test_two_by_two(self):
        for one in some_numbers():
            for other in some_numbers():
                with self.subTest(one=one, other=other):
                    self.assertEqual(sum_of(pair(one), pair(other)), pair(one + other))
                    self.assertEqual(less_by(pair(one), pair(other)), pair(one - other))
                    self.assertEqual(times_of(pair(one), pair(other)), pair(one * other))
                    self.assertIs(is_before(pair(one), pair(other)), one < other)
                    if other != 0:
                        self.assertEqual(quotient(pair(one), pair(other)), pair(one / other))

    def test_written_ones(self):
        self.assertEqual(sum_of((1, 6), (1, 3)), (1, 2))
        self.assertEqual(sum_of((1, 2), (-1, 2)), (0, 1))
        self.assertEqual(less_by((1, 3), (1, 2)), (-1, 6))
        self.assertEqual(less_by((1, 2), (1, 2)), (0, 1))
        self.assertEqual(times_of((2, 3), (3, 2)), (1, 1))
        self.assertEqual(times_of((-2, 3), (0, 1)), (0, 1))
        self.assertEqual(quotient((1, 2), (-3, 4)), (-2, 3))
        self.assertEqual(quotient((0, 1), (-3, 4)), (0, 1))

    def test_over_nought_is_refused(self):
        for one in ((0, 1), (1, 1), (-1, 2), (GREAT, 7)):
            with self.assertRaises(NoNumber):
                quotient(one, (0, 1))

    def test_none_is_before_its_like(self):
        for one in some_numbers():
            self.assertIs(is_before(pair(one), pair(one)), False)

    def test_ever_so_little_apart(self):
        less = (10**59, 10**59 + 1)
        more = (10**59 + 1, 10**59 + 2)
        self.assertIs(is_before(less, more), True)
        self.assertIs(is_before(more, less), False)
        self.assertIs(is_before((-(10**59) - 1, 10**59 + 2), (-(10**59), 10**59 + 1)), True)
        self.assertIs(is_before((-1, GREAT), (0, 1)), True)
        self.assertIs(is_before((0, 1), (1, GREAT)), True)

    def test_whole_and_rest(self):
        self.assertEqual(floor_of((-7, 2)), -4)
        self.assertEqual(rest_of((-7, 2)), (1, 2))
        for number in some_numbers():
            with self.subTest(number=number):
                whole = number.numerator // number.denominator
                self.assertEqual(floor_of(pair(number)), whole)
                self.assertEqual(rest_of(pair(number)), pair(number - whole))

    def test_whole_and_rest_come_to_the_fraction(self):
        for number in some_numbers():
            rest = rest_of(pair(number))
            self.assertIs(is_fraction(rest), True)
            self.assertFalse(is_before(rest, (0, 1)))
            self.assertTrue(is_before(rest, (1, 1)))
            self.assertEqual(sum_of((floor_of(pair(number)), 1), rest), pair(number))


if __name__ == "__main__":
    unittest.main()
