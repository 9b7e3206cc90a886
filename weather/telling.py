"""The rows that a desk is told: each read to its first word and its fields."""

from weather.errors import NoRow, NoText
from weather.figures import is_number
from weather.fractions import MOST_FIGURES, read_small_fraction
from weather.readings import read_number, read_turn, read_word
from weather.times import read_time

FORMS = {
    "reading": ("mast", "time", "turn", "number"),
    "unit": ("mast", "time", "fraction", "fraction"),
    "check": ("mast", "time", "fraction"),
    "show": (),
    "value": ("mast", "time"),
    "marks": (),
    "stands": ("mast",),
    "fills": ("mast",),
    "day": ("mast", "count"),
    "week": ("mast", "count"),
}
WITH_TEXT = ("rules", "parted")


def read_told(row):
    if not isinstance(row, str):
        raise NoRow()
    parts = row.partition(" ")
    if parts[0] in WITH_TEXT and parts[1] == " ":
        return (parts[0], [parts[2]])
    if parts[0] not in FORMS:
        raise NoRow()
    try:
        return (parts[0], read_fields(row.split(" ")[1:], FORMS[parts[0]]))
    except NoText:
        raise NoRow() from None


def read_fields(words, kinds):
    fields = []
    place = 0
    for kind in kinds:
        # A time's text has a blank in it.
        end = place + 2 if kind == "time" else place + 1
        fields.append(read_field(" ".join(words[place:end]), kind))
        place = end
    if place != len(words):
        raise NoText(1)
    return fields


def read_field(text, kind):
    if kind == "mast":
        return read_word(text)
    if kind == "time":
        return read_time(text)
    if kind == "turn":
        return read_turn(text)
    if kind == "number":
        return read_number(text)
    if kind == "fraction":
        return read_small_fraction(text)
    return read_count(text)


def read_count(text):
    if not is_number(text, MOST_FIGURES):
        raise NoText(1)
    return int(text)
