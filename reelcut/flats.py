"""Tables laid flat: pieces in which each picture and each share goes on by even steps."""

from reelcut.clips import NOUGHT, place_at
from reelcut.errors import TooMuch
from reelcut.fractions import floor_of, fraction, sum_of, times_of
from reelcut.mixes import mix_at, mix_shares, part_ahead, taken_at_begin, taken_at_end
from reelcut.tables import WHOLE_SHARE
from reelcut.tracks import item_at, length_of, moments_of

MOST_PIECES = 400

# Below, a run is a tuple (begin, end, parts): all the moments round one at which the walk meets the same items, and
# the parts as they are at its begin. Its end is None where it has none: behind the end of a track nothing comes.
NOTHING = (0, None, ())


def after(first, step, k):
    return sum_of(first, times_of(fraction(k, 1), step))


def parts_later(parts, k):
    return tuple([(reel, after(start, step, k), step, after(share, share_step, k), share_step)
                  for reel, start, step, share, share_step in parts])


def run_within(run, low, high):
    begin = max(low, run[0])
    ends = [end for end in (run[1], high) if end is not None]
    return (begin, min(ends, default=None), parts_later(run[2], begin - run[0]))


def run_of_mix(track, place, begin):
    length = track[place][1]
    ahead = track[place - 1]
    behind = track[place + 1]
    shares = mix_shares(length, 0)
    from_border = -part_ahead(length)
    first = (ahead[1], place_at(ahead, ahead[4] + from_border), ahead[3], shares[0], fraction(-1, length + 1))
    second = (behind[1], place_at(behind, from_border), behind[3], shares[1], fraction(1, length + 1))
    return (begin, begin + length, (first, second))


def run_of_clip(track, place, begin):
    clip = track[place]
    low = taken_at_begin(track, place)
    high = clip[4] - taken_at_end(track, place)
    return (begin + low, begin + high, ((clip[1], place_at(clip, low), clip[3], WHOLE_SHARE, NOUGHT),))


def run_of_nest(room, nest, begin, how_far, known):
    inner = run_at(room, nest[1], nest[2] + how_far, known)
    later = begin - nest[2]
    end = None if inner[1] is None else inner[1] + later
    return run_within((inner[0] + later, end, inner[2]), begin, begin + nest[3])


def run_on(room, track, moment, known):
    mixed = mix_at(track, moment)
    if mixed is not None:
        return run_of_mix(track, mixed[0], moment - mixed[1])
    found = item_at(track, moment)
    if found is None:
        return (length_of(track), None, ())
    item = track[found[0]]
    begin = moment - found[1]
    if item[0] == "clip":
        return run_of_clip(track, found[0], begin)
    if item[0] == "nest":
        return run_of_nest(room, item, begin, found[1], known)
    return (begin, begin + moments_of(item), ())


def walked(room, name, moment, known):
    run = NOTHING
    for track in room[1][name][0]:
        run = run_within(run_on(room, track, moment, known), run[0], run[1])
        if run[2] != ():
            break
    return run


def place_for(runs, moment):
    # The runs of a table have no moment in common and are kept in order, so halving finds the first not ahead of it.
    low = 0
    high = len(runs)
    while low < high:
        middle = (low + high) // 2
        if runs[middle][1] is not None and runs[middle][1] <= moment:
            low = middle + 1
        else:
            high = middle
    return low


def run_at(room, name, moment, known):
    # Nests upon nests lead to one table again and again; it is walked once for each run, not for each way to it.
    runs = known.setdefault(name, [])
    place = place_for(runs, moment)
    if place < len(runs) and runs[place][0] <= moment:
        return runs[place]
    run = walked(room, name, moment, known)
    runs.insert(place, run)
    return run


def laid_flat(room, name):
    end = max([length_of(track) for track in room[1][name][0]])
    known = {}
    pieces = []
    moment = 0
    while moment < end:
        if len(pieces) == MOST_PIECES:
            raise TooMuch("there are more than 400 pieces")
        run = run_at(room, name, moment, known)
        pieces.append((run[1] - run[0], run[2]))
        moment = run[1]
    return pieces


def told_flat(pieces, moment):
    begin = 0
    for length, parts in pieces:
        if moment < begin + length:
            there = parts_later(parts, moment - begin)
            return [(part[0], floor_of(part[1]), part[3]) for part in there]
        begin = begin + length
    return []
