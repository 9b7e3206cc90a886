"""What a desk is told ahead of a test, and all that it may be asked for to see whether it is another one behind."""

from weather.desk import Desk

TIMES = ("0 00:00", "0 00:10", "0 00:20", "0 00:50", "0 23:59", "1 00:00", "7 00:00", "8 12:00")
MASTS = ("hill", "sea", "top")
SOME_RULES = "mark big: 50 < here\nmark up: back 1 + 5 < here and ago 1 < 60\nfill 10 60"
TOLD = (
    "reading hill 0 00:00 0 5",
    "reading sea 0 00:00 0 40",
    "reading hill 0 00:10 0 90",
    "reading hill 0 00:50 3 8",
    "reading hill 8 12:00 0 -7",
    "reading sea 1 00:00 0 120",
    "unit sea 0 00:00 1/2 1",
    "unit sea 1 00:00 1/10 -1/3",
    "check hill 0 00:00 1/2",
    "check hill 0 00:40 5/2",
    "rules " + SOME_RULES,
)


def desk_of(told):
    desk = Desk()
    for row in told:
        desk.say(row)
    return desk


def questions():
    asked = ["show", "marks", "parted ", "parted mark big: 50 < here", "parted mark x: at sea < here"]
    for mast in MASTS:
        asked += ["stands " + mast, "fills " + mast]
        asked += ["value " + mast + " " + time for time in TIMES]
        asked += ["day " + mast + " " + str(day) for day in range(10)]
        asked += ["week " + mast + " " + str(week) for week in range(3)]
    return asked


def answers_of(desk):
    return [(asked, desk.say(asked)) for asked in questions()]
