"""Totals and rolls of dice, and whether dice are alike."""

from dicesums.basics import GREATEST_TOTAL, counted, need_dice, need_number


def totals(dice):
    need_dice(dice)
    return sorted(counted(dice).items())


def ways(dice, total):
    need_dice(dice)
    need_number(total, 0, GREATEST_TOTAL)
    return counted(dice).get(total, 0)


def rolls(dice):
    need_dice(dice)
    found = [()]
    for die in dice:
        longer = []
        for roll in found:
            longer.extend([roll + (face,) for face in die])
        found = longer
    # A face that is there twice brings the same rolls once more, behind greater ones.
    return sorted(found)


def alike(one, other):
    return parted(one, other) is None


def parted(one, other):
    need_dice(one)
    need_dice(other)
    first = counted(one)
    second = counted(other)
    either = list(first) + list(second)
    return min([total for total in either if first.get(total, 0) != second.get(total, 0)], default=None)
