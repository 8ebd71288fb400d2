"""Tables of tracks, what they tell, and the room that holds reels and tables."""

from reelcut.clips import check_clip, is_name, picture_at
from reelcut.errors import NoClip, NoRoom
from reelcut.fractions import is_whole
from reelcut.mixes import mix_at, mixes_fit, told_in_mix
from reelcut.tracks import has_gap_or_mix_form, has_nest_form, is_in_one_form, item_at

MOST_PICTURES = 1000000000
MOST_TRACKS = 8
MOST_DEEP = 6
WHOLE_SHARE = (1, 1)


def told_on(track, moment, room):
    mixed = mix_at(track, moment)
    if mixed is not None:
        return told_in_mix(track, mixed[0], mixed[1])
    found = item_at(track, moment)
    if found is None:
        return []
    item = track[found[0]]
    if item[0] == "clip":
        return [(item[1], picture_at(item, found[1]), WHOLE_SHARE)]
    if item[0] == "nest":
        return told_at(room, item[1], item[2] + found[1])
    return []


def told_at(room, name, moment):
    tracks = room[1][name][0]
    for track in tracks:
        told = told_on(track, moment, room)
        if told != []:
            return told
    return []


def is_number_of_pictures(thing):
    return is_whole(thing) and thing >= 1 and thing <= MOST_PICTURES


def check_reels(reels):
    for name, many in reels.items():
        if not is_name(name) or not is_number_of_pictures(many):
            raise NoRoom("a reel has a name and from one to 10**9 pictures")


def check_clip_of_room(item, reels):
    try:
        check_clip(item, reels)
    except NoClip:
        raise NoRoom("a clip is none of these reels") from None


def check_item(item, room):
    if isinstance(item, tuple) and len(item) > 0 and item[0] == "clip":
        check_clip_of_room(item, room[0])
    elif has_nest_form(item):
        if item[1] not in room[1]:
            raise NoRoom("a nest names no table")
    elif not has_gap_or_mix_form(item):
        raise NoRoom("an item is none")


def check_track(track, room):
    if not isinstance(track, list):
        raise NoRoom("a track is a list")
    for item in track:
        check_item(item, room)
    if not is_in_one_form(track):
        raise NoRoom("a track is not in the one form")
    if not mixes_fit(track, room[0]):
        raise NoRoom("a mix does not fit")


def is_tied(tied, many):
    if not isinstance(tied, list):
        return False
    least = 0
    for number in tied:
        if not is_whole(number) or number < least or number >= many:
            return False
        least = number + 1
    return True


def check_table(table, room):
    if not isinstance(table, tuple) or len(table) != 2 or not isinstance(table[0], list):
        raise NoRoom("a table is a tuple of tracks and tied numbers")
    if len(table[0]) < 1 or len(table[0]) > MOST_TRACKS:
        raise NoRoom("a table has one to eight tracks")
    for track in table[0]:
        check_track(track, room)
    if not is_tied(table[1], len(table[0])):
        raise NoRoom("tied numbers are numbers of tracks, rising")


def nested_in(table):
    names = []
    for track in table[0]:
        names.extend([item[1] for item in track if item[0] == "nest"])
    return names


def rests_upon(table, lower):
    return all([name in lower for name in nested_in(table)])


def check_depth(tables):
    # Layer upon layer, each of tables that nest only lower ones: one that is nested in itself never comes in.
    lower = {}
    for layer in range(MOST_DEEP):
        found = [name for name in tables if rests_upon(tables[name], lower)]
        for name in found:
            lower[name] = True
    if len(lower) < len(tables):
        raise NoRoom("tables are nested in themselves or too deep")


def check_room(room):
    if not isinstance(room, tuple) or len(room) != 2:
        raise NoRoom("a room is a tuple of reels and tables")
    if not isinstance(room[0], dict) or not isinstance(room[1], dict):
        raise NoRoom("reels and tables are dicts")
    check_reels(room[0])
    for name, table in room[1].items():
        if not is_name(name):
            raise NoRoom("the name of a table is none")
        check_table(table, room)
    check_depth(room[1])
