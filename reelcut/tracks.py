"""Tracks: lists of items in the one form, which lie end to end from moment 0 on."""

from reelcut.clips import clip_part, is_name
from reelcut.fractions import is_whole


def is_length(thing):
    return is_whole(thing) and thing >= 1


def has_nest_form(item):
    if not isinstance(item, tuple) or len(item) != 4:
        return False
    if item[0] != "nest" or not is_name(item[1]):
        return False
    return is_whole(item[2]) and item[2] >= 0 and is_length(item[3])


def has_gap_or_mix_form(item):
    if not isinstance(item, tuple) or len(item) != 2:
        return False
    return item[0] in ("gap", "mix") and is_length(item[1])


def moments_of(item):
    # A mix lies over the clips beside it and takes no room of its own.
    return 0 if item[0] == "mix" else item[-1]


def one_form(some):
    track = []
    # A gap waits for the item behind it: so neighbours come together, and those at the end are never laid.
    waiting = 0
    for item in some:
        if item[0] == "gap":
            waiting = waiting + item[1]
        else:
            if waiting > 0:
                track.append(("gap", waiting))
            waiting = 0
            track.append(item)
    return track


def length_of(track):
    return sum([moments_of(item) for item in track])


def borders_of(track):
    borders = [0]
    for item in track:
        if item[0] != "mix":
            borders.append(borders[-1] + moments_of(item))
    return borders


def item_at(track, moment):
    begin = 0
    for place, item in enumerate(track):
        end = begin + moments_of(item)
        if begin <= moment and moment < end:
            return (place, moment - begin)
        begin = end
    return None


def kind_at(track, place):
    # Places beyond the list are asked for too, and a place below 0 must not count from the end.
    if place < 0 or place >= len(track):
        return ""
    return track[place][0]


def is_in_one_form(track):
    if one_form(track) != track:
        return False
    mixes = [place for place, item in enumerate(track) if item[0] == "mix"]
    return all([kind_at(track, place - 1) == "clip" and kind_at(track, place + 1) == "clip" for place in mixes])


def place_ahead(track, place):
    return place - 2 if kind_at(track, place - 1) == "mix" else place - 1


def place_behind(track, place):
    return place + 2 if kind_at(track, place + 1) == "mix" else place + 1


def neighbours_at(track, moment):
    # The places of the two items, mixes aside, between which the border lies, or None.
    found = item_at(track, moment)
    if found is None or found[1] != 0 or found[0] == 0:
        return None
    return (place_ahead(track, found[0]), found[0])


def clips_at_border(track, moment):
    places = neighbours_at(track, moment)
    if places is None or kind_at(track, places[0]) != "clip" or kind_at(track, places[1]) != "clip":
        return None
    return places


def lies_within(track, moment):
    # Whether a clip or nest would be cut at the moment; a gap is none that could be.
    found = item_at(track, moment)
    return found is not None and found[1] > 0 and kind_at(track, found[0]) in ("clip", "nest")


def item_part(item, low, high):
    if item[0] == "clip":
        return clip_part(item, low, high)
    if item[0] == "nest":
        return ("nest", item[1], item[2] + low, high - low)
    return ("gap", high - low)


def part_of_track(track, low, high):
    parts = []
    begin = 0
    for item in track:
        end = begin + moments_of(item)
        first = max(low, begin)
        last = min(high, end)
        if item[0] == "mix":
            # At the edge of the part one of its two clips would be missing.
            if low < begin and begin < high:
                parts.append(item)
        elif first < last:
            parts.append(item_part(item, first - begin, last - begin))
        begin = end
    return parts
