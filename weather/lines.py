"""The straight line between two values: each told as a tuple (mast, time, value)."""

from weather.fractions import fraction, minus, plus, times


def value_at(time, first, second):
    share = share_at(time, first[1], second[1])
    return plus(first[2], times(share, minus(second[2], first[2])))


# Where both are the same one, there is no way between them to have a share of.
def share_at(time, start, end):
    if start == end:
        return fraction(0, 1)
    return fraction(time - start, end - start)
