"""Mixes: over a span round the border of two clips the one goes over into the other."""

from reelcut.clips import head_room, picture_at, tail_room
from reelcut.errors import NoPlace
from reelcut.fractions import fraction, is_whole
from reelcut.tracks import clips_at_border, kind_at, moments_of


def part_ahead(length):
    return length // 2


def part_behind(length):
    return length - length // 2


def mix_spans(track):
    spans = []
    border = 0
    for item in track:
        if item[0] == "mix":
            spans.append((border - part_ahead(item[1]), border, border + part_behind(item[1])))
        border = border + moments_of(item)
    return spans


def mix_shares(length, j):
    return (fraction(length - j, length + 1), fraction(j + 1, length + 1))


def mix_at(track, moment):
    # The place of the mix in whose span the moment lies, and which one of the span it is, from 0; or None.
    places = [place for place, item in enumerate(track) if item[0] == "mix"]
    for place, span in zip(places, mix_spans(track)):
        if span[0] <= moment and moment < span[2]:
            return (place, moment - span[0])
    return None


def told_in_mix(track, place, j):
    length = track[place][1]
    ahead = track[place - 1]
    behind = track[place + 1]
    shares = mix_shares(length, j)
    # The border is moment 0 of the clip behind, and the first moment beyond the clip ahead.
    from_border = j - part_ahead(length)
    first = (ahead[1], picture_at(ahead, ahead[4] + from_border), shares[0])
    second = (behind[1], picture_at(behind, from_border), shares[1])
    return [first, second]


def taken_at_begin(track, place):
    if kind_at(track, place - 1) != "mix":
        return 0
    return part_behind(track[place - 1][1])


def taken_at_end(track, place):
    if kind_at(track, place + 1) != "mix":
        return 0
    return part_ahead(track[place + 1][1])


def most_mix(track, moment, reels):
    places = clips_at_border(track, moment) if is_whole(moment) else None
    if places is None:
        raise NoPlace("there is no border of two clips")
    ahead = track[places[0]]
    behind = track[places[1]]
    most_ahead = min(ahead[4] - taken_at_begin(track, places[0]), head_room(behind, reels))
    most_behind = min(behind[4] - taken_at_end(track, places[1]), tail_room(ahead, reels))
    # The part behind is as long as the part ahead or one longer; so one of the two bounds the whole.
    if most_behind > most_ahead:
        return max(2 * most_ahead + 1, 0)
    return max(2 * most_behind, 0)


def mixes_fit(track, reels):
    return all([span[2] - span[0] <= most_mix(track, span[1], reels) for span in mix_spans(track)])
