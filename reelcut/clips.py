"""Clips of reels: tuples ("clip", reel, start, step, length)."""

from reelcut.errors import NoClip
from reelcut.fractions import floor_of, fraction, is_before, is_fraction, is_whole
from reelcut.fractions import less_by, quotient, sum_of, times_of

LETTERS = "abcdefghijklmnopqrstuvwxyz"
LONGEST_NAME = 8
MOST_ROOM = 1000000
NOUGHT = (0, 1)


def is_name(thing):
    if not isinstance(thing, str):
        return False
    if len(thing) < 1 or len(thing) > LONGEST_NAME:
        return False
    return all([letter in LETTERS for letter in thing])


def has_clip_form(item):
    if not isinstance(item, tuple) or len(item) != 5:
        return False
    if item[0] != "clip" or not is_name(item[1]):
        return False
    if not is_fraction(item[2]) or not is_fraction(item[3]):
        return False
    return is_whole(item[4]) and item[4] >= 1


def place_at(clip, k):
    return sum_of(clip[2], times_of(fraction(k, 1), clip[3]))


def picture_at(clip, k):
    return floor_of(place_at(clip, k))


def is_there(picture, many):
    return 0 <= picture and picture < many


def check_clip(item, reels):
    if not has_clip_form(item):
        raise NoClip("this is no clip")
    if item[1] not in reels:
        raise NoClip("there is no such reel")
    many = reels[item[1]]
    # A clip never turns back, so all its pictures lie between those of its ends.
    if not is_there(picture_at(item, 0), many) or not is_there(picture_at(item, item[4] - 1), many):
        raise NoClip("the reel has not all these pictures")


def clip_part(clip, low, high):
    return ("clip", clip[1], place_at(clip, low), clip[3], high - low)


def goes_on(one, other):
    if one[1] != other[1] or one[3] != other[3]:
        return False
    return other[2] == place_at(one, one[4])


def moments_there(first, step, many):
    # Reckoned, not counted, so that great numbers take no longer than small ones.
    if step == NOUGHT:
        return MOST_ROOM
    if not is_there(floor_of(first), many):
        return 0
    if is_before(step, NOUGHT):
        # Place k, from 0, is there as long as k is not above first / -step.
        room = floor_of(quotient(first, less_by(NOUGHT, step))) + 1
    else:
        # Place k is there as long as k is below (many - first) / step: rounded up, the other sign's whole.
        room = -floor_of(quotient(less_by(first, fraction(many, 1)), step))
    return min(room, MOST_ROOM)


def head_room(clip, reels):
    return moments_there(place_at(clip, -1), less_by(NOUGHT, clip[3]), reels[clip[1]])


def tail_room(clip, reels):
    return moments_there(place_at(clip, clip[4]), clip[3], reels[clip[1]])
