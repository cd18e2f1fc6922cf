"""Contests of several dice: which is alone, some dice against others, and rings of dice that are rolled twice."""

from dicesums.basics import counted, fraction, how_many, need_dice, product
from dicesums.beating import lesser, rings


def alone(dice):
    need_dice(dice)
    return [fraction(lone_rolls(dice, place), how_many(dice)) for place in range(len(dice))]


def shared(dice):
    need_dice(dice)
    # No two dice are alone in one roll, so what is left of all rolls has none that is.
    lone = sum([lone_rolls(dice, place) for place in range(len(dice))])
    return fraction(how_many(dice) - lone, how_many(dice))


def twice_rings(dice):
    need_dice(dice)
    twice = [counted((die, die)) for die in dice]
    table = []
    for one in twice:
        table.append([has_more_wins(one, other) for other in twice])
    return rings(table)


def against(one, other):
    need_dice(one)
    need_dice(other)
    return outcomes(counted(one), counted(other))


def lone_rolls(dice, place):
    others = dice[:place] + dice[place + 1:]
    return sum([rolls_below(others, face) for face in dice[place]])


def rolls_below(dice, face):
    return product([lesser(die, face) for die in dice])


def outcomes(one, other):
    won = 0
    drawn = 0
    lost = 0
    for mine in one:
        for yours in other:
            many = one[mine] * other[yours]
            if mine > yours:
                won += many
            elif mine == yours:
                drawn += many
            else:
                lost += many
    return (won, drawn, lost)


def has_more_wins(one, other):
    counts = outcomes(one, other)
    return counts[0] > counts[2]
