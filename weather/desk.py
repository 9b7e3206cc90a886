"""The year's desk: it keeps readings, units, checks and rules, and answers rows with texts."""

from weather.answers import show_marks, show_place, show_sums, show_values
from weather.book import Book
from weather.days import days, weeks
from weather.errors import NoFraction, TooMany, Twice
from weather.fills import fills
from weather.fractions import show_fraction
from weather.marks import marks, standing
from weather.parting import parted
from weather.reading import read_rules
from weather.rows import row_of
from weather.telling import read_told
from weather.writing import show_rules

MOST_READINGS = 200
# So many units and so many checks.
MOST_TOLD = 40


class Desk:
    def __init__(self):
        self.book = Book()
        self.units = []
        self.checks = []
        self.rules = []
        self.fill = None

    def say(self, row):
        told = read_told(row)
        first = told[0]
        fields = told[1]
        if first == "reading":
            return self.keep_reading((fields[0], fields[1], fields[2], fields[3]))
        if first == "unit":
            return self.keep_unit((fields[0], fields[1], fields[2], fields[3]))
        if first == "check":
            return self.keep_check((fields[0], fields[1], fields[2]))
        if first == "rules":
            return self.keep_rules(read_rules(fields[0]))
        return self.answer(first, fields)

    def keep_reading(self, reading):
        is_another = self.kept_at(reading[0], reading[1]) == []
        if is_another and len(self.book.kept()) == MOST_READINGS:
            raise TooMany(MOST_READINGS)
        return "new" if self.book.put(reading) else "known"

    def kept_at(self, mast, time):
        return [reading for reading in self.book.of_mast(mast) if reading[1] == time]

    def keep_unit(self, unit):
        refuse_twice(unit, self.units)
        if unit[2] == (0, 1):
            raise NoFraction()
        refuse_more(self.units)
        self.units.append(unit)
        return "ok"

    def keep_check(self, check):
        refuse_twice(check, self.checks)
        refuse_more(self.checks)
        self.checks.append(check)
        return "ok"

    def keep_rules(self, book):
        self.rules = book[0]
        self.fill = book[1]
        return "ok"

    def answer(self, first, fields):
        if first == "show":
            return show_rules((self.rules, self.fill))
        if first == "value":
            return self.value_text(fields[0], fields[1])
        if first == "marks":
            return show_marks(marks(self.kept_row(), self.rules))
        if first == "stands":
            return show_values(those_of(fields[0], standing(self.kept_row(), self.rules)))
        if first == "fills":
            return show_values(those_of(fields[0], self.kept_fills()))
        if first == "day":
            return sums_text(fields[0], fields[1], self.kept_days())
        if first == "week":
            return sums_text(fields[0], fields[1], weeks(self.kept_days()))
        return self.parted_text(read_rules(fields[0])[0])

    def kept_row(self):
        return row_of(self.book.kept(), self.units, self.checks)

    def kept_fills(self):
        if self.fill is None:
            return []
        return fills(standing(self.kept_row(), self.rules), self.fill[0], self.fill[1])

    def kept_days(self):
        return days(self.kept_row(), self.rules, self.fill)

    def value_text(self, mast, time):
        found = row_of(self.kept_at(mast, time), self.units, self.checks)
        return "none" if found == [] else show_fraction(found[0][2])

    def parted_text(self, others):
        found = parted(self.kept_row(), self.rules, others)
        return "alike" if found is None else show_place(found)


def refuse_twice(told, kept):
    if (told[0], told[1]) in [(one[0], one[1]) for one in kept]:
        raise Twice(told[0])


def refuse_more(kept):
    if len(kept) == MOST_TOLD:
        raise TooMany(MOST_TOLD)


def those_of(mast, some):
    return [one for one in some if one[0] == mast]


def sums_text(mast, number, some):
    found = [one for one in some if one[0] == mast and one[1] == number]
    return "none" if found == [] else show_sums(found[0])
