"""Ways back: rows of deeds that undo a deed."""

from reelcut.deeds import deed_done, stretch_of, tracks_changed
from reelcut.tracks import clips_at_border, lies_within, moments_of, part_of_track


def heals(table, number, moments):
    return [("heal", number, moment) for moment in moments if lies_within(table[0][number], moment)]


def laid_again(table, number, low, high):
    deeds = []
    moment = low
    for item in part_of_track(table[0][number], low, high):
        if item[0] in ("clip", "nest"):
            deeds.append(("lay_over", number, moment, item))
        moment = moment + moments_of(item)
    return deeds + heals(table, number, (low, high))


def back_of_mix(table, deed):
    if deed[0] == "mix":
        return [("unmix", deed[1], deed[2])]
    track = table[0][deed[1]]
    places = clips_at_border(track, deed[2])
    return [("mix", deed[1], deed[2], track[places[0] + 1][1])]


def back_of_room(table, deed):
    length = deed[3] if deed[0] == "open" else moments_of(deed[3])
    deeds = [("close", deed[1], deed[2], deed[2] + length)]
    for number in tracks_changed(table, deed):
        deeds.extend(heals(table, number, (deed[2],)))
    return deeds


def back_of_stretch(table, deed):
    stretch = stretch_of(deed)
    deeds = []
    if deed[0] == "close":
        deeds.append(("open", deed[1], stretch[0], stretch[1] - stretch[0]))
    if deed[0] == "lay_over":
        deeds.append(("lift", deed[1], stretch[0], stretch[1]))
    for number in tracks_changed(table, deed):
        deeds.extend(laid_again(table, number, stretch[0], stretch[1]))
    return deeds


def back_of(table, deed, reels):
    # Done for its refusals alone: the way back goes by the table ahead of the deed.
    deed_done(table, deed, reels)
    if deed[0] == "cut":
        return [("heal", deed[1], deed[2])]
    if deed[0] == "heal":
        return [("cut", deed[1], deed[2])]
    if deed[0] in ("mix", "unmix"):
        return back_of_mix(table, deed)
    if deed[0] in ("lay_in", "open"):
        return back_of_room(table, deed)
    if deed[0] == "slip":
        return [("slip", deed[1], deed[2], -deed[3])]
    if deed[0] in ("roll", "slide"):
        return [(deed[0], deed[1], deed[2] + deed[3], -deed[3])]
    return back_of_stretch(table, deed)
