"""What the other files share: checks of what is handed in, the counting of rolls and sums, and fractions."""

from dicesums.errors import NoDice, NoDie, NoNumber, NoTotals

MOST_FACES = 8
MOST_DICE = 4
GREATEST_FACE = 30
GREATEST_TOTAL = 120
MOST_WAYS = 4096
GREATEST_ASKED = 999


def is_number(thing, low, high):
    # True and False are ints to Python, but no whole numbers here.
    if not isinstance(thing, int) or isinstance(thing, bool):
        return False
    return low <= thing <= high


def is_die(thing):
    if not isinstance(thing, tuple) or not 1 <= len(thing) <= MOST_FACES:
        return False
    # Things of any kind may stand here, so they are compared only once all are known to be numbers.
    if not all([is_number(face, 0, GREATEST_FACE) for face in thing]):
        return False
    return list(thing) == sorted(thing)


def is_dice(thing):
    if not isinstance(thing, tuple) or not 1 <= len(thing) <= MOST_DICE:
        return False
    return all([is_die(die) for die in thing])


def is_total_row(thing):
    if not isinstance(thing, tuple) or len(thing) != 2:
        return False
    return is_number(thing[0], 0, GREATEST_TOTAL) and is_number(thing[1], 1, MOST_WAYS)


def is_totals(thing):
    if not isinstance(thing, list) or not thing:
        return False
    if not all([is_total_row(row) for row in thing]):
        return False
    heads = [row[0] for row in thing]
    return heads == sorted(set(heads))


def need_number(thing, low, high):
    if not is_number(thing, low, high):
        raise NoNumber(f"no whole number from {low} to {high}")


def need_die(thing):
    if not is_die(thing):
        raise NoDie("no die: a tuple of 1 to 8 faces from 0 to 30, none less than the one ahead")


def need_dice(thing):
    if not is_dice(thing):
        raise NoDice("no dice: a tuple of 1 to 4 dice")


def need_totals(thing):
    if not is_totals(thing):
        raise NoTotals("no totals: a rising list of tuples (total, ways)")


def counted(dice):
    counts = {0: 1}
    for die in dice:
        larger = {}
        for total in counts:
            for face in die:
                larger[total + face] = larger.get(total + face, 0) + counts[total]
        counts = larger
    return counts


def at_least(counts, total):
    return sum([counts[reached] for reached in counts if reached >= total])


def product(numbers):
    many = 1
    for number in numbers:
        many = many * number
    return many


def how_many(dice):
    return product([len(die) for die in dice])


def fraction(part, whole):
    shared = whole
    left = part
    while left:
        behind = shared % left
        shared = left
        left = behind
    return (part // shared, whole // shared)
