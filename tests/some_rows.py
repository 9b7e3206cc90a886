"""Rows and rules made by chance from a seed, and rows judged by hand, straight by the words of the document."""

import fractions

from some_conditions import PLACED, count_parts
from weather.rules import holds

MASTS = ("a", "hill", "sea")


def as_tuple(one):
    return (one.numerator, one.denominator)


def some_value(chance):
    return as_tuple(fractions.Fraction(chance.randrange(-6, 7), chance.choice((1, 1, 2, 3))))


def some_row(chance, most, last=60, masts=MASTS):
    """A row of at most so many readings, with times from 0 to the last one, crowded enough to meet by time."""
    places = [(time, mast) for time in range(last + 1) for mast in masts]
    chosen = sorted(chance.sample(places, min(len(places), chance.randrange(most + 1))))
    return [(mast, time, some_value(chance)) for time, mast in chosen]


def some_leaf(chance, masts, most_place):
    leaf = chance.choice(PLACED + ("here", "here", "at", "num"))
    if leaf == "here" or (leaf == "at" and masts == ()):
        return ("here",)
    if leaf == "at":
        return ("at", chance.choice(masts))
    if leaf == "num":
        return ("num", (chance.randrange(9), 1))
    return (leaf, chance.randrange(1, most_place + 1))


def some_rule_term(chance, masts, most_place):
    leaf = some_leaf(chance, masts, most_place)
    kind = chance.choice(("leaf", "abs", "times", "+", "-"))
    if kind == "abs":
        return ("abs", ("-", leaf, some_leaf(chance, masts, most_place)))
    if kind == "times":
        return ("times", (chance.randrange(4), 1), leaf)
    if kind == "leaf":
        return leaf
    return (kind, leaf, some_leaf(chance, masts, most_place))


def some_rule_condition(chance, depth, masts, most_place):
    kind = chance.choice(("<", "<", "=", "not", "and", "or") if depth > 0 else ("<", "="))
    if kind in ("<", "="):
        return (kind, some_rule_term(chance, masts, most_place), some_rule_term(chance, masts, most_place))
    inner = [some_rule_condition(chance, depth - 1, masts, most_place) for turn in range(1 if kind == "not" else 2)]
    return (kind, *inner)


def some_rules(chance, most, masts=MASTS, most_place=3):
    names = chance.sample("bcdefghijklm", chance.randrange(most + 1))
    return [(name, bounded_condition(chance, masts, most_place)) for name in names]


def bounded_condition(chance, masts, most_place):
    while True:
        condition = some_rule_condition(chance, 2, masts, most_place)
        if count_parts(condition) <= 30:
            return condition


def asked_by_hand(part):
    """All that stands in a condition and asks for a reading, in no order."""
    asked = {("here",)}
    if part[0] in ("back", "ago"):
        asked.add(("back", part[1]))
    if part[0] in ("on", "until"):
        asked.add(("on", part[1]))
    if part[0] == "at":
        asked.add(part)
    for inner in part[1:]:
        if isinstance(inner, tuple) and isinstance(inner[0], str):
            asked |= asked_by_hand(inner)
    return asked


def one_by_hand(ask, reading, stands):
    mast, time, value = reading
    if ask == ("here",):
        return reading
    if ask[0] == "at":
        same = [one for one in stands if one[0] == ask[1] and one[1] == time]
        return same[0] if same else None
    if ask[0] == "back":
        ahead = sorted([one for one in stands if one[0] == mast and one[1] < time], key=lambda one: -one[1])
    else:
        ahead = sorted([one for one in stands if one[0] == mast and one[1] > time], key=lambda one: one[1])
    return ahead[ask[1] - 1] if len(ahead) >= ask[1] else None


def judged_by_hand(row, rules):
    """The marks, and what stands."""
    stands = list(row)
    marked = []
    for name, condition in rules:
        ahead = list(stands)
        for reading in ahead:
            found = {ask: one_by_hand(ask, reading, ahead) for ask in asked_by_hand(condition)}
            if None in found.values():
                continue
            if holds(condition, {ask: one[1:] for ask, one in found.items()}):
                seen = [one[:2] for one in row if one in found.values()]
                marked.append((reading[0], reading[1], name, seen))
                stands.remove(reading)
    return (marked, stands)
