"""Checks: how much a mast was off at a time, and how a value is put right by that and taken back."""

from weather.fractions import fraction, minus, plus
from weather.lines import value_at


def off_at(mast, time, checks):
    own = [check for check in checks if check[0] == mast]
    if own == []:
        return fraction(0, 1)
    first = max([check for check in own if check[1] <= time], key=time_of, default=None)
    second = min([check for check in own if check[1] >= time], key=time_of, default=None)
    # At a check's own time, ahead of the first and behind the last one a single check counts.
    if first is None:
        first = second
    if second is None:
        second = first
    return value_at(time, first, second)


def time_of(check):
    return check[1]


def put_right(mast, time, value, checks):
    return minus(value, off_at(mast, time, checks))


def taken_back(mast, time, value, checks):
    return plus(value, off_at(mast, time, checks))
