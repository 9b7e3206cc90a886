"""Units: what a mast's number means from a time on, and how the meaning is taken back."""

from weather.fractions import fraction, minus, over, plus, times


def meaning(reading, units):
    unit = counting_unit(reading[0], reading[1], units)
    return plus(times(fraction(reading[3], 1), unit[2]), unit[3])


def number_back(mast, time, value, units):
    unit = counting_unit(mast, time, units)
    return over(minus(value, unit[3]), unit[2])


def counting_unit(mast, time, units):
    # By this one a number means itself.
    without = (mast, time, (1, 1), (0, 1))
    begun = [unit for unit in units if unit[0] == mast and unit[1] <= time]
    return max(begun, key=lambda unit: unit[1], default=without)
