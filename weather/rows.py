"""A book's row: each kept reading with its number's meaning put right."""

from weather.checks import put_right
from weather.units import meaning


def row_of(readings, units, checks):
    return [row_reading(reading, units, checks) for reading in readings]


def row_reading(reading, units, checks):
    mast = reading[0]
    time = reading[1]
    return (mast, time, put_right(mast, time, meaning(reading, units), checks))
