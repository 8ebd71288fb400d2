"""roll, slip and slide: a border or a clip is moved by so many moments."""

from reelcut.clips import clip_part, head_room, tail_room
from reelcut.errors import Mixed, NoPlace, Short
from reelcut.fractions import is_whole
from reelcut.tracks import clips_at_border, item_at, kind_at, place_ahead, place_behind

MOST_BY = 1000000


def check_place(table, number, moment):
    if not is_whole(number) or number < 0 or number >= len(table[0]):
        raise NoPlace("there is no such track")
    if not is_whole(moment) or moment < 0:
        raise NoPlace("this is no moment")


def check_by(by):
    if not is_whole(by) or abs(by) > MOST_BY:
        raise NoPlace("by is no whole number from -10**6 to 10**6")


def clip_there(track, moment):
    found = item_at(track, moment)
    if found is None or kind_at(track, found[0]) != "clip":
        return None
    return (found[0],)


def clip_and_sides(track, moment):
    found = clip_there(track, moment)
    if found is None:
        return None
    left = place_ahead(track, found[0])
    right = place_behind(track, found[0])
    if kind_at(track, left) != "clip" or kind_at(track, right) != "clip":
        return None
    return (left, found[0], right)


def places_named(track, deed):
    # The places of the clips that the deed is about, from left to right, or None where they are not there.
    if deed[0] == "roll":
        return clips_at_border(track, deed[2])
    if deed[0] == "slip":
        return clip_there(track, deed[2])
    if deed[0] == "slide":
        return clip_and_sides(track, deed[2])
    return None


def has_mix(track, place):
    return kind_at(track, place - 1) == "mix" or kind_at(track, place + 1) == "mix"


def check_short(most, by):
    if abs(by) > most:
        raise Short(most if by > 0 else -most)


def most_slip(clip, by, reels):
    return tail_room(clip, reels) if by > 0 else head_room(clip, reels)


def most_roll(left, right, by, reels):
    # The one becomes longer as far as its reel goes, of the other a moment must be left.
    if by > 0:
        return min(tail_room(left, reels), right[4] - 1)
    return min(left[4] - 1, head_room(right, reels))


def slipped(track, place, by, reels):
    clip = track[place]
    check_short(most_slip(clip, by, reels), by)
    changed = list(track)
    # Moments beyond the clip are reckoned like its own, so these too make a part of it.
    changed[place] = clip_part(clip, by, by + clip[4])
    return changed


def with_rolled_ends(track, first, last, by, reels):
    left = track[first]
    right = track[last]
    check_short(most_roll(left, right, by, reels), by)
    changed = list(track)
    changed[first] = clip_part(left, 0, left[4] + by)
    changed[last] = clip_part(right, by, right[4])
    return changed


def table_with(table, number, track):
    tracks = [list(one) for one in table[0]]
    tracks[number] = track
    return (tracks, list(table[1]))


def rolled(table, deed, reels):
    check_place(table, deed[1], deed[2])
    check_by(deed[3])
    track = table[0][deed[1]]
    places = places_named(track, deed)
    if places is None:
        raise NoPlace("there is no such border or clip, or no two clips beside it")
    if any([has_mix(track, place) for place in places]):
        raise Mixed("a border of these clips has a mix")
    if deed[0] == "slip":
        return table_with(table, deed[1], slipped(track, places[0], deed[3], reels))
    return table_with(table, deed[1], with_rolled_ends(track, places[0], places[-1], deed[3], reels))
