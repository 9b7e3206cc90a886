"""Times: whole minutes from 0 on, their texts, their days and weeks."""

from weather.errors import NoText
from weather.figures import is_number, only_figures

LAST_TIME = 1000000000
MOST_DAY_FIGURES = 6
DAY_MINUTES = 1440
HOUR_MINUTES = 60
WEEK_DAYS = 7


def day_of(time):
    return time // DAY_MINUTES


def week_of(day):
    return day // WEEK_DAYS


def show_time(time):
    day = day_of(time)
    minutes = time % DAY_MINUTES
    hour = str(minutes // HOUR_MINUTES).zfill(2)
    minute = str(minutes % HOUR_MINUTES).zfill(2)
    return f"{day} {hour}:{minute}"


def read_time(text):
    day = text[:-6]
    hour = text[-5:-3]
    minute = text[-2:]
    if not (is_number(day, MOST_DAY_FIGURES) and only_figures(hour) and only_figures(minute)):
        raise NoText(1)
    time = int(day) * DAY_MINUTES + int(hour) * HOUR_MINUTES + int(minute)
    # A time has one text alone: this turns away 24:00, 07:60 and another sign for the blank or the colon.
    if time > LAST_TIME or show_time(time) != text:
        raise NoText(1)
    return time
