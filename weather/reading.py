"""Texts of conditions and of books of rules, read."""

from weather.errors import NoText
from weather.figures import read_whole
from weather.fractions import read_small_fraction
from weather.readings import read_word
from weather.tokens import Tokens

LAST_PLACE = 9
MOST_RULES = 12
LAST_STEP = 1000000
MOST_STEPS = 100


def read_condition(text):
    return read_to_end(Tokens(text))


def read_to_end(tokens):
    condition = read_or(tokens)
    tokens.expect_end()
    return condition


def read_or(tokens):
    condition = read_and(tokens)
    while tokens.ahead() == "or":
        tokens.expect("or")
        tokens.begin_part()
        condition = ("or", condition, read_and(tokens))
    return condition


def read_and(tokens):
    condition = read_not(tokens)
    while tokens.ahead() == "and":
        tokens.expect("and")
        tokens.begin_part()
        condition = ("and", condition, read_not(tokens))
    return condition


def read_not(tokens):
    if tokens.ahead() == "not":
        tokens.expect("not")
        tokens.begin_part()
        return ("not", read_not(tokens))
    if tokens.ahead() == "[":
        tokens.enter("[")
        condition = read_or(tokens)
        tokens.leave("]")
        return condition
    return read_comparison(tokens)


def read_comparison(tokens):
    tokens.begin_part()
    left = read_sum(tokens)
    sign = tokens.take()
    if sign not in ("<", "="):
        raise NoText(1)
    return (sign, left, read_sum(tokens))


def read_sum(tokens):
    term = read_product(tokens)
    while tokens.ahead() in ("+", "-"):
        sign = tokens.take()
        tokens.begin_part()
        term = (sign, term, read_product(tokens))
    return term


def read_product(tokens):
    if tokens.ahead(1) != "*":
        return read_single(tokens)
    factor = read_small_fraction(tokens.take())
    tokens.expect("*")
    tokens.begin_part()
    return ("times", factor, read_single(tokens))


def read_single(tokens):
    if tokens.ahead() == "(":
        return read_bracketed(tokens)
    tokens.begin_part()
    word = tokens.take()
    if word == "here":
        return ("here",)
    if word in ("back", "on", "ago", "until"):
        return (word, read_whole(tokens.take(), 1, LAST_PLACE))
    if word == "at":
        return ("at", read_word(tokens.take()))
    if word == "abs":
        return ("abs", read_bracketed(tokens))
    return ("num", read_small_fraction(word))


def read_bracketed(tokens):
    tokens.enter("(")
    term = read_sum(tokens)
    tokens.leave(")")
    return term


def read_rules(text):
    rules = []
    fill = None
    for number, row in enumerate(text.split("\n"), start=1):
        if row.strip(" ") == "":
            continue
        # The fill is the last row of a book of rules.
        if fill is not None:
            raise NoText(number)
        tokens = Tokens(row)
        try:
            if tokens.ahead() == "fill":
                fill = read_fill(tokens)
            else:
                rules.append(read_rule(tokens, rules))
        except NoText:
            raise NoText(number) from None
    return (rules, fill)


def read_rule(tokens, rules):
    tokens.expect("mark")
    name = read_word(tokens.take())
    tokens.expect(":")
    condition = read_to_end(tokens)
    if len(rules) == MOST_RULES or name in [rule[0] for rule in rules]:
        raise NoText(1)
    return (name, condition)


def read_fill(tokens):
    tokens.expect("fill")
    step = read_whole(tokens.take(), 1, LAST_STEP)
    most = read_whole(tokens.take(), step, MOST_STEPS * step)
    tokens.expect_end()
    return (step, most)
