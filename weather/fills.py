"""Fills: values on the straight line between two neighbouring readings of a mast."""

from weather.lines import value_at


def fills(row, step, most):
    told = []
    latest = {}
    for reading in row:
        mast = reading[0]
        if mast in latest:
            told.extend(fills_between(latest[mast], reading, step, most))
        latest[mast] = reading
    return sorted(told, key=lambda fill: (fill[1], fill[0]))


def fills_between(first, second, step, most):
    mast = first[0]
    start = first[1]
    end = second[1]
    # Up to the step there is none ahead of the end by itself.
    if end - start > most:
        return []
    return [(mast, time, value_at(time, first, second), start, end) for time in range(start + step, end, step)]
