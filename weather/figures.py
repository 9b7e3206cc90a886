"""Whole numbers from 0 on, as texts of the figures 0 to 9."""

from weather.errors import NoText

FIGURES = "0123456789"


# Python's own isdigit and int take signs of other scripts, blanks and underscores too.
def only_figures(text):
    return text != "" and all([sign in FIGURES for sign in text])


def is_number(text, most_figures):
    if len(text) > most_figures or not only_figures(text):
        return False
    return text == "0" or not text.startswith("0")


def read_whole(text, least, most):
    if not is_number(text, len(str(most))):
        raise NoText(1)
    number = int(text)
    if number < least or number > most:
        raise NoText(1)
    return number
