"""Marks: how rules judge a row one behind the other, and what stands behind them."""

from weather.fractions import fraction
from weather.rules import asked_by, holds
from weather.sight import Sight


def marks(row, rules):
    return judged(row, rules)[0]


def standing(row, rules):
    return judged(row, rules)[1]


def judged(row, rules):
    told = []
    stands = [(reading[0], reading[1], fraction(reading[2][0], reading[2][1])) for reading in row]
    for rule in rules:
        sight = Sight(stands)
        asked = asked_by(rule[1])
        left = []
        for reading in stands:
            seen = sight.seen_from(reading, asked)
            if seen is not None and holds(rule[1], found_of(seen)):
                told.append((reading[0], reading[1], rule[0], keys_of(seen)))
            else:
                left.append(reading)
        stands = left
    return (told, stands)


def found_of(seen):
    return dict([(ask, (seen[ask][1], seen[ask][2])) for ask in seen])


# Several that are asked for may be the same reading.
def keys_of(seen):
    keys = sorted(set([(reading[1], reading[0]) for reading in seen.values()]))
    return [(key[1], key[0]) for key in keys]
