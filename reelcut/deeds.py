"""The deeds of the hand: the table that comes of each of them."""

from reelcut.clips import check_clip, goes_on
from reelcut.errors import Mixed, NoPlace, Short
from reelcut.fractions import is_whole
from reelcut.mixes import mix_spans, most_mix
from reelcut.rolls import check_place, rolled, table_with
from reelcut.tracks import clips_at_border, has_nest_form, is_length, length_of, lies_within
from reelcut.tracks import moments_of, neighbours_at, one_form, part_of_track

ROLLS = ("roll", "slip", "slide")
LAYS = ("lay_in", "lay_over")
PUSHES = ("lay_in", "open", "close")
CHANGES = ("cut", "lay_in", "open", "close", "lift", "lay_over")


def stretch_of(deed):
    # What is taken away lies from the first moment to the second; of cut, lay_in and open it is nothing.
    if deed[0] in ("close", "lift"):
        return (deed[2], deed[3])
    if deed[0] == "lay_over":
        return (deed[2], deed[2] + moments_of(deed[3]))
    return (deed[2], deed[2])


def laid_by(deed):
    if deed[0] in LAYS:
        return [deed[3]]
    if deed[0] == "open":
        return [("gap", deed[3])]
    if deed[0] == "lift":
        return [("gap", deed[3] - deed[2])]
    return []


def laid_on_tied(deed):
    return [("gap", moments_of(item)) for item in laid_by(deed)]


def tracks_changed(table, deed):
    if deed[0] not in PUSHES or deed[1] not in table[1]:
        return [deed[1]]
    return [deed[1]] + [number for number in table[1] if number != deed[1]]


def check_numbers(deed):
    if deed[0] in ("open", "mix") and not is_length(deed[3]):
        raise NoPlace("this is no length")
    if deed[0] in ("close", "lift") and (not is_whole(deed[3]) or deed[2] >= deed[3]):
        raise NoPlace("the first moment is not below the second")


def touches_mix(track, low, high):
    # A cut is a stretch without moments: it touches within the span, at neither end of it, or at the border.
    for span in mix_spans(track):
        if span[0] < high and low < span[2] or low <= span[1] and span[1] <= high:
            return True
    return False


def check_mixes(table, deed):
    stretch = stretch_of(deed)
    for number in tracks_changed(table, deed):
        if touches_mix(table[0][number], stretch[0], stretch[1]):
            raise Mixed("the deed would touch a mix")


def check_change(table, deed, reels):
    if deed[0] not in CHANGES:
        raise NoPlace("there is no such deed")
    if deed[0] == "cut" and not lies_within(table[0][deed[1]], deed[2]):
        raise NoPlace("there is no clip or nest to cut")
    # Whether a nest's table is there is the room's affair, of which nothing is known here.
    if deed[0] in LAYS and not has_nest_form(deed[3]):
        check_clip(deed[3], reels)
    check_mixes(table, deed)


def nest_goes_on(one, other):
    return one[1] == other[1] and other[2] == one[2] + one[3]


def can_heal(track, places):
    if places is None:
        return False
    one = track[places[0]]
    other = track[places[1]]
    if one[0] == "clip" and other[0] == "clip":
        return goes_on(one, other)
    return one[0] == "nest" and other[0] == "nest" and nest_goes_on(one, other)


def healed(table, deed):
    track = table[0][deed[1]]
    places = neighbours_at(track, deed[2])
    if not can_heal(track, places):
        raise NoPlace("there is no border at which the second goes on from the first")
    check_mixes(table, deed)
    one = track[places[0]]
    whole = one[:-1] + (one[-1] + track[places[1]][-1],)
    return table_with(table, deed[1], track[:places[0]] + [whole] + track[places[1] + 1:])


def mixed(table, deed, reels):
    track = table[0][deed[1]]
    places = clips_at_border(track, deed[2])
    if places is None or places[1] != places[0] + 1:
        raise NoPlace("there is no border of two clips without a mix")
    most = most_mix(track, deed[2], reels)
    if deed[3] > most:
        raise Short(most)
    return table_with(table, deed[1], track[:places[1]] + [("mix", deed[3])] + track[places[1]:])


def unmixed(table, deed):
    track = table[0][deed[1]]
    places = clips_at_border(track, deed[2])
    if places is None or places[1] == places[0] + 1:
        raise NoPlace("there is no mix at this border")
    return table_with(table, deed[1], track[:places[0] + 1] + track[places[1]:])


def relaid(track, low, high, laid):
    # Gaps of no length go with the one form, so one is put in whether it is needed or not.
    filling = ("gap", max(low - length_of(track), 0))
    return one_form(part_of_track(track, 0, low) + [filling] + laid + part_of_track(track, high, length_of(track)))


def changed(table, deed):
    stretch = stretch_of(deed)
    told = table
    for number in tracks_changed(table, deed):
        laid = laid_by(deed) if number == deed[1] else laid_on_tied(deed)
        told = table_with(told, number, relaid(table[0][number], stretch[0], stretch[1], laid))
    return told


def deed_done(table, deed, reels):
    if deed[0] in ROLLS:
        return rolled(table, deed, reels)
    check_place(table, deed[1], deed[2])
    check_numbers(deed)
    if deed[0] == "heal":
        return healed(table, deed)
    if deed[0] == "mix":
        return mixed(table, deed, reels)
    if deed[0] == "unmix":
        return unmixed(table, deed)
    check_change(table, deed, reels)
    return changed(table, deed)
