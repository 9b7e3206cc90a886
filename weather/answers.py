"""The texts that a desk answers with."""

from weather.fractions import show_fraction
from weather.times import show_time


def show_marks(some):
    return "; ".join([show_mark(mark) for mark in some])


def show_mark(mark):
    place = show_place(mark)
    name = mark[2]
    seen = "".join([show_seen(key) for key in mark[3]])
    return f"{place} {name}{seen}"


def show_seen(key):
    place = show_place(key)
    return f" ({place})"


def show_place(key):
    mast = key[0]
    time = show_time(key[1])
    return f"{mast} {time}"


# Of readings of a row and of fills alike, whose mast the asker has named.
def show_values(some):
    return "; ".join([show_timed_value(one) for one in some])


def show_timed_value(one):
    time = show_time(one[1])
    value = show_fraction(one[2])
    return f"{time} {value}"


# Of days and of weeks alike, whose mast and number the asker has named.
def show_sums(one):
    values = [show_value(value) for value in one[3:6]]
    return " ".join([str(one[2])] + values + [str(one[6]), str(one[7])])


def show_value(value):
    return "-" if value is None else show_fraction(value)
