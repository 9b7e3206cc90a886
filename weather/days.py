"""Days and weeks: what is told of a mast's readings and fills, put together."""

from weather.fills import fills
from weather.fractions import fraction, plus, under
from weather.marks import standing
from weather.rows import keys_in
from weather.times import day_of, week_of


def days(row, rules, fill=None):
    stands = standing(row, rules)
    stood = keys_in(stands)
    some = [day_of_standing(reading) for reading in stands]
    some.extend([day_of_marked(reading) for reading in row if (reading[0], reading[1]) not in stood])
    if fill is not None:
        some.extend([day_of_fill(one) for one in fills(stands, fill[0], fill[1])])
    return put_together(some)


def day_of_standing(reading):
    value = reading[2]
    return (reading[0], day_of(reading[1]), 1, value, value, value, 0, 0)


def day_of_marked(reading):
    return (reading[0], day_of(reading[1]), 0, (0, 1), None, None, 1, 0)


def day_of_fill(fill):
    return (fill[0], day_of(fill[1]), 0, (0, 1), None, None, 0, 1)


def weeks(some):
    return put_together([(one[0], week_of(one[1])) + one[2:] for one in some])


def put_together(some):
    groups = {}
    for one in some:
        groups.setdefault((one[1], one[0]), []).append(one)
    return [group_told(key[1], key[0], groups[key]) for key in sorted(groups)]


def group_told(mast, number, group):
    stood = sum([one[2] for one in group])
    # Of those where none stands there is no value to reckon with.
    with_values = [one for one in group if one[2] > 0]
    total = total_of([one[3] for one in with_values])
    least = first_of([one[4] for one in with_values], under)
    greatest = first_of([one[5] for one in with_values], lambda one, other: under(other, one))
    marked = sum([one[6] for one in group])
    filled = sum([one[7] for one in group])
    return (mast, number, stood, total, least, greatest, marked, filled)


def total_of(values):
    total = fraction(0, 1)
    for value in values:
        total = plus(total, value)
    return total


def first_of(values, comes_ahead):
    first = None
    for value in values:
        if first is None or comes_ahead(value, first):
            first = fraction(value[0], value[1])
    return first
