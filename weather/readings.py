"""Readings: tuples (mast, time, turn, number), their texts, and the words that masts and rules are called by."""

from weather.errors import NoText
from weather.figures import read_whole
from weather.fractions import read_fraction
from weather.times import read_time, show_time

LETTERS = "abcdefghijklmnopqrstuvwxyz"
MOST_LETTERS = 8
KEY_WORDS = ("mark", "fill", "here", "back", "on", "at", "ago", "until", "abs", "and", "or", "not")
LAST_TURN = 1000000000
READING_WORDS = 5


def is_word(thing):
    if not isinstance(thing, str) or thing == "" or len(thing) > MOST_LETTERS:
        return False
    return all([sign in LETTERS for sign in thing]) and thing not in KEY_WORDS


def read_word(text):
    if not is_word(text):
        raise NoText(1)
    return text


def show_reading(reading):
    mast = reading[0]
    time = show_time(reading[1])
    turn = reading[2]
    number = reading[3]
    return f"{mast} {time} {turn} {number}"


def read_reading(text):
    words = text.split(" ")
    if len(words) != READING_WORDS:
        raise NoText(1)
    mast = read_word(words[0])
    time = read_time(words[1] + " " + words[2])
    return (mast, time, read_turn(words[3]), read_number(words[4]))


def read_turn(text):
    return read_whole(text, 0, LAST_TURN)


# A reading's number has the figures, the sign and the bounds that the text of a fraction has above the stroke.
def read_number(text):
    found = read_fraction(text)
    if found[1] != 1:
        raise NoText(1)
    return found[0]
