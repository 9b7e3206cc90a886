"""Conditions made by chance from a seed, and their texts with brackets about all that may have them."""

PLACED = ("back", "on", "ago", "until")
FRACTIONS = ((0, 1), (1, 1), (7, 1), (1, 2), (22, 7), (3, 10), (999999999, 1), (999999998, 999999), (1, 999999))
MASTS = ("a", "hill", "sea", "mountain", "num", "times")


def some_term(chance, depth):
    kind = chance.choice(("+", "-", "times", "abs") if depth > 0 else ("leaf",))
    if depth > 0 and chance.random() < 0.3:
        kind = "leaf"
    if kind in ("+", "-"):
        return (kind, some_term(chance, depth - 1), some_term(chance, depth - 1))
    if kind == "times":
        return ("times", chance.choice(FRACTIONS), some_term(chance, depth - 1))
    if kind == "abs":
        return ("abs", some_term(chance, depth - 1))
    leaf = chance.choice(("num", "here", "at") + PLACED)
    if leaf == "num":
        return ("num", chance.choice(FRACTIONS))
    if leaf == "here":
        return ("here",)
    if leaf == "at":
        return ("at", chance.choice(MASTS))
    return (leaf, chance.randrange(1, 10))


def some_condition(chance, depth):
    kind = chance.choice(("<", "=", "not", "and", "or") if depth > 0 else ("<", "="))
    if kind in ("<", "="):
        return (kind, some_term(chance, chance.randrange(3)), some_term(chance, chance.randrange(3)))
    if kind == "not":
        return ("not", some_condition(chance, depth - 1))
    return (kind, some_condition(chance, depth - 1), some_condition(chance, depth - 1))


def count_parts(part):
    inner = [one for one in part[1:] if isinstance(one, tuple) and isinstance(one[0], str)]
    return 1 + sum(count_parts(one) for one in inner)


def bracketed_text(part):
    """A text with brackets about every sum, product, comparison and condition within another one."""
    kind = part[0]
    if kind == "num":
        return fraction_text(part[1])
    if kind == "here":
        return "here"
    if kind == "abs":
        return "abs(" + bracketed_text(part[1]) + ")"
    if kind == "times":
        return fraction_text(part[1]) + " * (" + bracketed_text(part[2]) + ")"
    if kind in ("+", "-", "<", "="):
        return "(" + bracketed_text(part[1]) + ") " + kind + " (" + bracketed_text(part[2]) + ")"
    if kind == "not":
        return "not [" + bracketed_text(part[1]) + "]"
    if kind in ("and", "or"):
        return "[" + bracketed_text(part[1]) + "] " + kind + " [" + bracketed_text(part[2]) + "]"
    return kind + " " + str(part[1])


def fraction_text(one):
    return str(one[0]) if one[1] == 1 else str(one[0]) + "/" + str(one[1])
