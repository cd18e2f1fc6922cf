"""Which dice beat which, rings and rows of them, and how likely a total is."""

from dicesums.basics import GREATEST_ASKED, at_least, counted, fraction, how_many, is_number
from dicesums.basics import need_dice, need_die, need_number


def wins(one, other):
    need_die(one)
    need_die(other)
    won = sum([lesser(other, face) for face in one])
    drawn = sum([other.count(face) for face in one])
    return (won, drawn, len(one) * len(other) - won - drawn)


def beats(one, other):
    counts = wins(one, other)
    return counts[0] > counts[2]


def all_rings(dice):
    need_dice(dice)
    return rings(beaten(dice))


def is_ring(dice, thing):
    need_dice(dice)
    return are_places(thing, len(dice)) and goes_round(beaten(dice), thing)


def order(dice):
    need_dice(dice)
    table = beaten(dice)
    row = []
    left = list(range(len(dice)))
    while left:
        # None that is left may beat the one that comes next; the least such place makes the first row.
        free = [place for place in left if is_unbeaten(table, left, place)]
        if not free:
            return None
        row.append(free[0])
        left = [place for place in left if place != free[0]]
    return row


def chance(dice, total):
    need_dice(dice)
    need_number(total, 0, GREATEST_ASKED)
    return fraction(at_least(counted(dice), total), how_many(dice))


def lesser(die, than):
    return len([face for face in die if face < than])


def beaten(dice):
    table = []
    for one in dice:
        table.append([beats(one, other) for other in dice])
    return table


def rings(table):
    found = []
    paths = [(place,) for place in range(len(table))]
    while paths:
        longer = []
        for path in paths:
            longer.extend(steps(table, path))
        found.extend([path for path in longer if goes_round(table, path)])
        paths = longer
    return sorted(found)


def steps(table, path):
    # A ring is told with its least place first, so only greater places may follow.
    greater = [place for place in range(path[0] + 1, len(table)) if place not in path]
    return [path + (place,) for place in greater if table[path[-1]][place]]


def goes_round(table, path):
    # Behind the index -1 stands the last place, which must beat the first one.
    return all([table[path[at - 1]][path[at]] for at in range(len(path))])


def are_places(thing, many):
    if not isinstance(thing, tuple) or len(thing) < 2:
        return False
    # Things of any kind may stand here, so they are put into a set only once all are known to be numbers.
    if not all([is_number(place, 0, many - 1) for place in thing]):
        return False
    return len(set(thing)) == len(thing)


def is_unbeaten(table, left, place):
    return not any([table[other][place] for other in left])
