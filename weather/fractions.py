"""Exact fractions: tuples (top, bottom) in lowest terms, the bottom from 1 on."""

from weather.errors import NoFraction, NoText
from weather.figures import is_number

MOST_FIGURES = 60
TOP_BOUND = 1000000000
BOTTOM_BOUND = 1000000


def fraction(top, bottom):
    if not is_whole(top) or not is_whole(bottom) or bottom == 0:
        raise NoFraction()
    divisor = common_divisor(abs(top), abs(bottom))
    if bottom < 0:
        divisor = -divisor
    return (top // divisor, bottom // divisor)


# To Python, True and False are ints too.
def is_whole(thing):
    return isinstance(thing, int) and not isinstance(thing, bool)


def common_divisor(one, other):
    while other != 0:
        rest = one % other
        one = other
        other = rest
    return one


def plus(one, other):
    return fraction(one[0] * other[1] + other[0] * one[1], one[1] * other[1])


def minus(one, other):
    return fraction(one[0] * other[1] - other[0] * one[1], one[1] * other[1])


def times(one, other):
    return fraction(one[0] * other[0], one[1] * other[1])


def over(one, other):
    return fraction(one[0] * other[1], one[1] * other[0])


def under(one, other):
    return one[0] * other[1] < other[0] * one[1]


def show_fraction(one):
    top = one[0]
    bottom = one[1]
    if bottom == 1:
        return str(top)
    return f"{top}/{bottom}"


def read_fraction(text):
    below = text.startswith("-")
    parts = text[1:].split("/") if below else text.split("/")
    if len(parts) > 2 or not all([is_number(part, MOST_FIGURES) for part in parts]):
        raise NoText(1)
    top = -int(parts[0]) if below else int(parts[0])
    bottom = int(parts[1]) if len(parts) == 2 else 1
    if bottom == 0:
        raise NoText(1)
    found = fraction(top, bottom)
    # A fraction has one text alone: this turns away 2/4, 1/1, 0/3 and -0.
    if show_fraction(found) != text:
        raise NoText(1)
    return found


# Fractions of units, checks and rules have narrower bounds than others.
def read_small_fraction(text):
    found = read_fraction(text)
    if abs(found[0]) >= TOP_BOUND or found[1] >= BOTTOM_BOUND:
        raise NoText(1)
    return found
