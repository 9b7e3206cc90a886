"""Two books of rules: where they part a row; and how far rules reach."""

from weather.marks import standing
from weather.rows import keys_in
from weather.rules import asked_by


def parted(row, rules, others):
    ones = keys_in(standing(row, rules))
    twos = keys_in(standing(row, others))
    for reading in row:
        key = (reading[0], reading[1])
        if (key in ones) != (key in twos):
            return key
    return None


def reach(rules):
    asked = [asked_by(rule[1]) for rule in rules]
    if any([asks_for_a_mast(asks) for asks in asked]):
        return None
    return sum([farthest(asks) for asks in asked])


def asks_for_a_mast(asks):
    return any([ask[0] == "at" for ask in asks])


# What ago and until count from is asked for as back and on.
def farthest(asks):
    return max([ask[1] for ask in asks if ask[0] in ("back", "on")], default=0)
