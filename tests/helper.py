"""What several tests need: items, tables at random, all deeds of a table, and tracks moment by moment."""

from fractions import Fraction

from reelcut.clips import check_clip
from reelcut.errors import CutError
from reelcut.mixes import most_mix
from reelcut.tracks import one_form

REELS = {"sea": 100, "sky": 10, "long": 10**9}
INNER = {
    "inner": ([[("gap", 2), ("clip", "sea", (30, 1), (1, 1), 5)], [("clip", "sky", (1, 1), (1, 2), 4)]], []),
    "empty": ([[], []], [0]),
}
NO_NUMBERS = (None, True, False, "0", "1", (0, 1), [0], 0.0, -1, -10**20)


def pair(number):
    number = Fraction(number)
    return (number.numerator, number.denominator)


def clip(start, length, step=1, reel="sea"):
    return ("clip", reel, pair(start), pair(step), length)


def nest(start, length, table="inner"):
    return ("nest", table, start, length)


def gap(length):
    return ("gap", length)


def mix(length):
    return ("mix", length)


def table_of(*tracks, tied=()):
    return ([list(track) for track in tracks], list(tied))


def room_of(**found):
    """A room with a table of each name and these tracks, none tied."""
    return (dict(REELS), {name: ([list(track) for track in tracks], []) for name, tracks in found.items()})


def room_with(table):
    return (dict(REELS), {"table": table, **INNER})


def copied(table):
    return ([list(track) for track in table[0]], list(table[1]))


def outcome(call, *handed):
    """What is told, or of which class and with which fields it is refused."""
    try:
        return call(*handed)
    except CutError as refusal:
        return (type(refusal), vars(refusal))


def random_item(rng):
    kind = rng.choice(("clip", "clip", "clip", "nest", "gap"))
    length = rng.randint(1, 5)
    if kind == "gap":
        return gap(length)
    if kind == "nest":
        return nest(rng.randint(0, 4), length, rng.choice(("inner", "inner", "empty")))
    return clip(rng.choice((3, 4, 5, Fraction(9, 2))), length, rng.choice((0, 1, Fraction(1, 2), Fraction(-1, 2))),
                rng.choice(("sea", "sky")))


def going_on(item):
    if item[0] == "clip":
        return item[:2] + (pair(Fraction(*item[2]) + item[4] * Fraction(*item[3])),) + item[3:4] + (1,)
    return item[:2] + (item[2] + item[3], 2)


def random_track(rng):
    track = []
    for _ in range(rng.randint(0, 5)):
        item = random_item(rng)
        if track and track[-1][0] != "gap" and rng.random() < 0.3:
            item = going_on(track[-1])
        if item[0] != "clip" or outcome(check_clip, item, REELS) is None:
            track.append(item)
    return with_mixes(rng, one_form(track))


def with_mixes(rng, track):
    """The track with mixes at some of its borders of two clips."""
    border = 0
    for item in list(track):
        most = outcome(most_mix, track, border, REELS)
        if isinstance(most, int) and most > 0 and rng.random() < 0.4:
            place = [place for place, begin in places_of(track) if begin == border and track[place][0] != "mix"][0]
            track.insert(place, mix(rng.randint(1, min(most, 4))))
        border += item[-1]
    return track


def random_table(rng):
    tracks = [random_track(rng) for _ in range(rng.randint(1, 3))]
    return (tracks, [number for number in range(len(tracks)) if rng.random() < 0.6])


def random_nest(rng, names):
    return nest(rng.randint(0, 6), rng.randint(1, 12), rng.choice(names))


def random_room(rng):
    """Tables nested up to six deep, with tracks at random."""
    names = ["empty", "a", "b", "c", "d", "e"][:rng.randint(1, 6)]
    tables = {"empty": ([[], []], [])}
    for k, name in enumerate(names[1:]):
        tracks = []
        for _ in range(rng.randint(1, 3)):
            track = random_track(rng) + [random_nest(rng, names[:k + 1])] + random_track(rng)
            tracks.append([random_nest(rng, names[:k + 1]) if item[0] == "nest" else item for item in track])
        tables[name] = (tracks, [])
    return (dict(REELS), tables)


def places_of(track):
    """The place of each item and the moment at which it begins (of a mix its border)."""
    begin = 0
    found = []
    for place, item in enumerate(track):
        found.append((place, begin))
        begin += 0 if item[0] == "mix" else item[-1]
    return found


def length_by_model(track):
    return sum(item[-1] for item in track if item[0] != "mix")


def moments_by_model(track):
    """For each moment of the track the place of its item and how far it lies behind its begin."""
    return [(place, k) for place, item in enumerate(track) if item[0] != "mix" for k in range(item[-1])]


def all_deeds(table, items):
    """All deeds of small numbers to the tracks of a table, those that are refused among them."""
    for number, track in enumerate(table[0]):
        end = length_by_model(track) + 3
        for moment in range(end):
            yield from (("cut", number, moment), ("heal", number, moment), ("unmix", number, moment))
            for length in (1, 2, 3, 6):
                yield from (("open", number, moment, length), ("mix", number, moment, length))
            for item in items:
                yield from (("lay_in", number, moment, item), ("lay_over", number, moment, item))
            for last in range(moment, end + 1):
                yield from (("close", number, moment, last), ("lift", number, moment, last))
            for by in (-2, -1, 0, 1, 3):
                yield from (("roll", number, moment, by), ("slip", number, moment, by), ("slide", number, moment, by))
