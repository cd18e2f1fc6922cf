"""Which of several choices of dice is rolled, by the totals that are heard."""

from dicesums.basics import GREATEST_TOTAL, counted, fraction, how_many, is_dice, need_number, product
from dicesums.errors import Against, NoChoices, Nothing

MOST_CHOICES = 6


class Guess:
    def __init__(self, choices):
        need_choices(choices)
        self.tables = even_tables(choices)
        self.told = []

    def hear(self, total):
        need_number(total, 0, GREATEST_TOTAL)
        many = len(places_left(self.tables, self.told + [total]))
        if many == 0:
            raise Against(f"none of the choices could be with {total}")
        self.told.append(total)
        return many

    def left(self):
        return places_left(self.tables, self.told)

    def heard(self):
        return list(self.told)

    def share(self, place):
        need_number(place, 0, len(self.tables) - 1)
        found = weights(self.tables, self.told)
        return fraction(found[place], sum(found))

    def likely(self):
        found = weights(self.tables, self.told)
        return found.index(max(found))

    def undo(self):
        if not self.told:
            raise Nothing("no total is left to be taken back")
        return self.told.pop()


def is_choices(thing):
    if not isinstance(thing, list) or not 1 <= len(thing) <= MOST_CHOICES:
        return False
    # Things of any kind may stand here, so they are put into a set only once all are known to be dice.
    if not all([is_dice(dice) for dice in thing]):
        return False
    return len(set(thing)) == len(thing)


def need_choices(thing):
    if not is_choices(thing):
        raise NoChoices("no choices: a list of 1 to 6 unlike dice")


def even_tables(choices):
    # Ways of unlike many rolls can't be compared, so all are told as ways of one common number of rolls.
    whole = product([how_many(dice) for dice in choices])
    return [scaled(counted(dice), whole // how_many(dice)) for dice in choices]


def scaled(counts, times):
    return dict([(total, counts[total] * times) for total in counts])


def places_left(tables, told):
    return [place for place, counts in enumerate(tables) if can_be(counts, told)]


def can_be(counts, told):
    return all([total in counts for total in told])


def weights(tables, told):
    return [weight(counts, told) for counts in tables]


def weight(counts, told):
    return product([counts.get(total, 0) for total in told])
