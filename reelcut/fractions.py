"""Exact fractions: tuples (top, bottom) in lowest terms, bottom from 1 on."""

from reelcut.errors import NoNumber


def is_whole(x):
    # Python counts True and False among the ints; here they are no numbers.
    return isinstance(x, int) and not isinstance(x, bool)


def common_divisor(one, other):
    while other != 0:
        rest = one % other
        one = other
        other = rest
    return abs(one)


def is_fraction(x):
    if not isinstance(x, tuple) or len(x) != 2:
        return False
    if not is_whole(x[0]) or not is_whole(x[1]):
        return False
    return x[1] >= 1 and common_divisor(x[0], x[1]) == 1


def fraction(top, bottom):
    if not is_whole(top) or not is_whole(bottom):
        raise NoNumber("a fraction is made of two whole numbers")
    if bottom == 0:
        raise NoNumber("nothing is parted by nought")
    divisor = common_divisor(top, bottom)
    if bottom < 0:
        # The sign belongs to the top, so that each fraction has one form.
        divisor = -divisor
    return (top // divisor, bottom // divisor)


def sum_of(one, other):
    return fraction(one[0] * other[1] + other[0] * one[1], one[1] * other[1])


def less_by(one, other):
    return fraction(one[0] * other[1] - other[0] * one[1], one[1] * other[1])


def times_of(one, other):
    return fraction(one[0] * other[0], one[1] * other[1])


def quotient(one, other):
    # Where the other is nought the bottom comes to 0, which fraction refuses.
    return fraction(one[0] * other[1], one[1] * other[0])


def is_before(one, other):
    # Bottoms are above 0, so multiplying by them keeps the order.
    return one[0] * other[1] < other[0] * one[1]


def floor_of(one):
    return one[0] // one[1]


def rest_of(one):
    # Taking away a whole number leaves the terms as low as they were.
    return (one[0] % one[1], one[1])
