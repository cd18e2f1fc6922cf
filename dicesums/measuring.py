"""The mean, the spread, the middle and the likeliest totals of dice."""

from dicesums.basics import counted, fraction, need_dice


def mean(dice):
    need_dice(dice)
    counts = counted(dice)
    return fraction(added(counts), sum(counts.values()))


def spread(dice):
    need_dice(dice)
    counts = counted(dice)
    many = sum(counts.values())
    # The mean of the squares less the square of the mean: the same number, and whole up to the one division.
    return fraction(squared(counts) * many - added(counts) ** 2, many ** 2)


def middle(dice):
    need_dice(dice)
    counts = counted(dice)
    return min([total for total in counts if 2 * up_to(counts, total) >= sum(counts.values())])


def likeliest(dice):
    need_dice(dice)
    counts = counted(dice)
    most = max(counts.values())
    return sorted([total for total in counts if counts[total] == most])


def added(counts):
    return sum([total * counts[total] for total in counts])


def squared(counts):
    return sum([total ** 2 * counts[total] for total in counts])


def up_to(counts, total):
    return sum([counts[reached] for reached in counts if reached <= total])
