"""Rows: a book's kept readings, each with its number's meaning put right."""

from weather.checks import put_right
from weather.units import meaning


def row_of(readings, units, checks):
    return [row_reading(reading, units, checks) for reading in readings]


def row_reading(reading, units, checks):
    mast = reading[0]
    time = reading[1]
    return (mast, time, put_right(mast, time, meaning(reading, units), checks))


# A dict, so that each of many readings is found at once.
def keys_in(row):
    return dict([((reading[0], reading[1]), True) for reading in row])
