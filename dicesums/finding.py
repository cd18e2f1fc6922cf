"""Dice that have told totals: pairs, threes, the missing die, the others to two dice."""

from dicesums.basics import GREATEST_FACE, MOST_FACES, counted, need_die, need_number, need_totals, product
from dicesums.errors import NoNumber, TooMany

MOST_FIRST_FACES = 4
MOST_OTHER_ROLLS = 16
MOST_THREES = 400


def pairs(totals, sizes, least):
    need_asked(totals, sizes, 2, least)
    return all_moved(shapes(totals, sizes), starts(totals[0][0], 2, least))


def threes(totals, sizes, least):
    need_asked(totals, sizes, 3, least)
    if sizes[0] > MOST_FIRST_FACES or sizes[1] * sizes[2] > MOST_OTHER_ROLLS:
        raise TooMany("too many faces")
    bare = shapes(totals, sizes)
    lows = starts(totals[0][0], 3, least)
    if len(bare) * len(lows) > MOST_THREES:
        raise TooMany("too many threes")
    return all_moved(bare, lows)


def missing(totals, die):
    need_totals(totals)
    need_die(die)
    left = dict(totals)
    faces = []
    while left:
        # Only the least faces of both dice come to the least sum, so it tells the next face and how often.
        lowest = min(left)
        face = lowest - die[0]
        times = left[lowest] // die.count(die[0])
        if face < 0 or times == 0:
            return None
        same = (face,) * times
        left = rest(left, counted((same, die)))
        if left is None:
            return None
        faces.extend(same)
    return tuple(faces)


def others(one, other, least):
    need_die(one)
    need_die(other)
    need_number(least, 0, GREATEST_FACE)
    same = sorted(counted((one, other)).items())
    found = pairs(same, (len(one), len(other)), least)
    return [pair for pair in found if pair != (one, other) and pair != (other, one)]


def need_asked(totals, sizes, many, least):
    need_totals(totals)
    if not isinstance(sizes, tuple) or len(sizes) != many:
        raise NoNumber(f"the sizes are no tuple of {many} numbers")
    for size in sizes:
        need_number(size, 1, MOST_FACES)
    need_number(least, 0, GREATEST_FACE)


def rest(counts, taken):
    left = dict(counts)
    for total in taken:
        left[total] = left.get(total, 0) - taken[total]
        if left[total] < 0:
            return None
    return dict([(total, left[total]) for total in left if left[total] > 0])


def shapes(totals, sizes):
    # Dice with the same shape differ by where their faces start alone, so all are sought from 0 on.
    counts = dict([(row[0] - totals[0][0], row[1]) for row in totals])
    if sum(counts.values()) != product(sizes):
        return []
    found = [((0,),) * len(sizes)]
    for step in range(sum(sizes) - len(sizes)):
        longer = {}
        for dice in found:
            for larger in grown(counts, sizes, dice):
                longer[larger] = True
        found = list(longer)
    return [dice for dice in found if rest(counts, counted(dice)) == {}]


def grown(counts, sizes, dice):
    left = rest(counts, counted(dice))
    if not left:
        return []
    # Each die has a face 0, so the least sum that is left is the next face of one of them, beside these.
    face = min(left)
    return [with_face(dice, place, face) for place in range(len(dice)) if len(dice[place]) < sizes[place]]


def with_face(dice, place, face):
    return dice[:place] + (dice[place] + (face,),) + dice[place + 1:]


def starts(total, many, least):
    if many == 1:
        return [(total,)] if total >= least else []
    found = []
    for first in range(least, total - least + 1):
        found.extend([(first,) + behind for behind in starts(total - first, many - 1, least)])
    return found


def all_moved(bare, lows):
    found = []
    for dice in bare:
        found.extend([moved(dice, low) for low in lows])
    return sorted(found)


def moved(dice, low):
    return tuple([raised(die, low[place]) for place, die in enumerate(dice)])


def raised(die, by):
    return tuple([face + by for face in die])
