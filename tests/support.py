"""What several tests use: things that are not as told, and slow, plain ways to the same answers."""

from itertools import combinations_with_replacement, product

# Each of these is no die, by one part of what a die is.
NO_DIES = [
    (),
    (1,) * 9,
    (-1, 2),
    (1, 31),
    (2, 1),
    (1, 3, 2, 4),
    [1, 2],
    "12",
    ("1", "2"),
    (None,),
    (1, None),
    (True,),
    (False, 1),
    (0, True),
    (1, "2"),
    ((1,), (2,)),
    ([1], 2),
    None,
    True,
    7,
    {1: 2},
    {1, 2},
    b"12",
    range(3),
    object(),
]

NO_DICE = [(die,) for die in NO_DIES] + [((1, 2), die) for die in NO_DIES] + [
    (),
    ((1, 2),) * 5,
    [(1, 2)],
    [(1, 2), (3, 4)],
    (1, 2),
    "dice",
    None,
    True,
    False,
    0,
    {(1, 2): 1},
    {(1, 2)},
    object(),
]

NO_TOTALS = [
    [],
    (),
    ((1, 1),),
    None,
    True,
    5,
    "totals",
    {1: 1},
    {(1, 1)},
    object(),
    [1, 2],
    [None],
    ["11"],
    [[1, 1]],
    [(1, 1), [2, 1]],
    [()],
    [(1,)],
    [(1, 1, 1)],
    [(2, 1), (1, 1)],
    [(1, 1), (3, 1), (2, 1)],
    [(1, 1), (1, 1)],
    [(1, 1), (1, 2)],
    [(-1, 1)],
    [(-1, 1), (0, 1)],
    [(121, 1)],
    [(0, 1), (121, 1)],
    [(1, 0)],
    [(1, -1)],
    [(1, 4097)],
    [(1, 1), (2, 0)],
    [(1, 1), (2, 4097)],
    [(True, 1)],
    [(False, 1)],
    [(1, True)],
    [(0, 1), (True, 1)],
    [("1", 1)],
    [(1, "1")],
    [(None, 1)],
    [(1, None)],
    [((1,), 1)],
]

NOT_NUMBERS = [True, False, None, "1", "", (1,), [1], {}, object(), b"1"]


def plain_totals(dice):
    counts = {}
    for roll in product(*dice):
        counts[sum(roll)] = counts.get(sum(roll), 0) + 1
    return sorted(counts.items())


def plain_found(totals, sizes, least):
    """All dice of these sizes with just these totals, by trying every one."""
    greatest = totals[-1][0]
    all_dice = [list(combinations_with_replacement(range(least, greatest + 1), size)) for size in sizes]
    return [dice for dice in product(*all_dice) if plain_totals(dice) == totals]


def parts(number):
    """A fraction as the program tells it."""
    return (number.numerator, number.denominator)
