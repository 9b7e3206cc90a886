"""Terms and conditions: what they ask for, what a term means and when a condition holds."""

from weather.fractions import fraction, minus, plus, times, under


def asked_by(condition):
    parts = parts_of(condition)
    back = sorted(set([part[1] for part in parts if part[0] in ("back", "ago")]))
    on = sorted(set([part[1] for part in parts if part[0] in ("on", "until")]))
    masts = sorted(set([part[1] for part in parts if part[0] == "at"]))
    asked = [("here",)]
    asked.extend([("back", place) for place in back])
    asked.extend([("on", place) for place in on])
    asked.extend([("at", mast) for mast in masts])
    return asked


def parts_of(part):
    parts = [part]
    for inner in inner_parts(part):
        parts.extend(parts_of(inner))
    return parts


def inner_parts(part):
    if part[0] in ("+", "-", "<", "=", "and", "or"):
        return [part[1], part[2]]
    if part[0] == "times":
        return [part[2]]
    if part[0] in ("abs", "not"):
        return [part[1]]
    return []


def worth(term, found):
    kind = term[0]
    if kind == "num":
        return fraction(term[1][0], term[1][1])
    if kind == "ago":
        return minutes_between(("back", term[1]), ("here",), found)
    if kind == "until":
        return minutes_between(("here",), ("on", term[1]), found)
    if kind == "+":
        return plus(worth(term[1], found), worth(term[2], found))
    if kind == "-":
        return minus(worth(term[1], found), worth(term[2], found))
    if kind == "times":
        return times(term[1], worth(term[2], found))
    if kind == "abs":
        return without_sign(worth(term[1], found))
    value = found[term][1]
    return fraction(value[0], value[1])


def minutes_between(first, second, found):
    return fraction(found[second][0] - found[first][0], 1)


def without_sign(value):
    return fraction(abs(value[0]), value[1])


def holds(condition, found):
    kind = condition[0]
    if kind == "<":
        return under(worth(condition[1], found), worth(condition[2], found))
    if kind == "=":
        return worth(condition[1], found) == worth(condition[2], found)
    if kind == "not":
        return not holds(condition[1], found)
    if kind == "and":
        return holds(condition[1], found) and holds(condition[2], found)
    return holds(condition[1], found) or holds(condition[2], found)
