"""Lists: a track written for another rate, each border exact, and read back."""

from reelcut.clips import NOUGHT, has_clip_form
from reelcut.errors import NoList, NoNumber
from reelcut.fractions import floor_of, fraction, is_before, is_fraction, is_whole, quotient, rest_of, sum_of, times_of
from reelcut.tracks import has_gap_or_mix_form, has_nest_form, moments_of

ONE = (1, 1)
END = ("end",)
GAP = ("gap",)


def is_rate(thing):
    return is_fraction(thing) and is_before(NOUGHT, thing)


def check_rates(rate, other):
    if not is_rate(rate) or not is_rate(other):
        raise NoNumber("a rate is a fraction above nought")


def without_length(item):
    # A mix takes no room between two borders, so its length would be told nowhere else.
    return item if item[0] == "mix" else item[:-1]


def row_at(border, by, what):
    place = times_of(fraction(border, 1), by)
    return (floor_of(place), rest_of(place), what)


def written(track, rate, other):
    check_rates(rate, other)
    by = quotient(other, rate)
    rows = []
    border = 0
    for item in track:
        rows.append(row_at(border, by, without_length(item)))
        border = border + moments_of(item)
    return rows + [row_at(border, by, END)]


def holds_all(track, rate, other):
    return all([rest == NOUGHT for whole, rest, what in written(track, rate, other)])


def is_what(what):
    if not isinstance(what, tuple):
        return False
    if what == GAP or what == END:
        return True
    if what[:1] == ("mix",):
        return has_gap_or_mix_form(what)
    # With any length behind it, it must be a clip or nest.
    return has_clip_form(what + (1,)) or has_nest_form(what + (1,))


def has_row_form(row):
    if not isinstance(row, tuple) or len(row) != 3:
        return False
    if not is_whole(row[0]) or not is_fraction(row[1]) or not is_what(row[2]):
        return False
    return not is_before(row[1], NOUGHT) and is_before(row[1], ONE)


def may_follow(kind, ahead):
    # The first row has nothing ahead: "", which is neither a clip nor a gap.
    if ahead == "end":
        return False
    if ahead == "mix":
        return kind == "clip"
    if kind == "mix":
        return ahead == "clip"
    return ahead != "gap" or kind not in ("gap", "end")


def lies_right(border, borders, ahead):
    # Borders are those of the rows ahead, all of which are right.
    if len(borders) == 0:
        return border == 0
    if ahead == "mix":
        return border == borders[-1]
    return border > borders[-1]


def borders_read(rows, rate, other):
    # Each row's border, as far as the rows are right; the first wrong one is refused.
    by = quotient(rate, other)
    borders = []
    ahead = ""
    for number, row in enumerate(rows):
        if not has_row_form(row) or not may_follow(row[2][0], ahead):
            raise NoList(number)
        place = times_of(sum_of(fraction(row[0], 1), row[1]), by)
        if rest_of(place) != NOUGHT or not lies_right(floor_of(place), borders, ahead):
            raise NoList(number)
        borders.append(floor_of(place))
        ahead = row[2][0]
    if ahead != "end":
        raise NoList(len(rows))
    return borders


def read_back(rows, rate, other):
    check_rates(rate, other)
    borders = borders_read(rows, rate, other)
    track = []
    for number, row in enumerate(rows[:-1]):
        what = row[2]
        if what[0] == "mix":
            track.append(what)
        else:
            track.append(what + (borders[number + 1] - borders[number],))
    return track
