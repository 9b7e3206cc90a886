"""Conditions and books of rules, written as texts with the fewest brackets."""

from weather.fractions import show_fraction


def show_condition(condition):
    kind = condition[0]
    if kind == "or":
        return joined(show_condition(condition[1]), kind, show_bound(condition[2], ("or",)))
    if kind == "and":
        return joined(show_bound(condition[1], ("or",)), kind, show_bound(condition[2], ("or", "and")))
    if kind == "not":
        return "not " + show_bound(condition[1], ("or", "and"))
    return joined(show_term(condition[1]), kind, show_term(condition[2]))


# Brackets are needed about those kinds alone that bind no more than what stands about them.
def show_bound(condition, loose):
    text = show_condition(condition)
    return f"[{text}]" if condition[0] in loose else text


def show_term(term):
    kind = term[0]
    if kind in ("+", "-"):
        return joined(show_term(term[1]), kind, show_tight(term[2], ("+", "-")))
    if kind == "times":
        return joined(show_fraction(term[1]), "*", show_tight(term[2], ("+", "-", "times")))
    if kind == "abs":
        inner = show_term(term[1])
        return f"abs({inner})"
    if kind == "num":
        return show_fraction(term[1])
    if kind == "here":
        return kind
    place = term[1]
    return f"{kind} {place}"


def show_tight(term, loose):
    text = show_term(term)
    return f"({text})" if term[0] in loose else text


def joined(left, sign, right):
    return f"{left} {sign} {right}"


def show_rules(book):
    rows = [show_rule(rule) for rule in book[0]]
    if book[1] is not None:
        rows.append(show_fill(book[1]))
    return "\n".join(rows)


def show_rule(rule):
    name = rule[0]
    condition = show_condition(rule[1])
    return f"mark {name}: {condition}"


def show_fill(fill):
    step = fill[0]
    most = fill[1]
    return f"fill {step} {most}"
