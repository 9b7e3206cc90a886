"""What holds over the whole program, whatever a desk is told."""

import random
import unittest

from some_desks import TOLD, answers_of, desk_of
from some_rows import some_rules
from weather.book import Book
from weather.checks import taken_back
from weather.parting import reach
from weather.readings import show_reading
from weather.rows import row_of
from weather.times import read_time
from weather.units import number_back
from weather.writing import show_rules

FRACTIONS = ((1, 2), (-1, 3), (5, 1), (22, 7), (-999999999, 999998))
MASTS = ("hill", "sea")


def some_readings(chance, most):
    """Several of one mast and time among them."""
    return [
        (chance.choice(MASTS), 10 * chance.randrange(20), chance.randrange(3), chance.randrange(-9, 10))
        for turn in range(chance.randrange(most + 1))
    ]


def some_places(chance, most):
    return chance.sample([(mast, time) for mast in MASTS for time in range(0, 200, 7)], chance.randrange(most + 1))


def rows_of(readings):
    return ["reading " + show_reading(reading) for reading in readings]


def marks_of(desk):
    """By which rule a reading is marked, by its mast and time."""
    told = {}
    for mark in desk.say("marks").split("; "):
        if mark:
            mast, day, clock, name = mark.split(" ")[:4]
            told[(mast, read_time(day + " " + clock))] = name
    return told


class Order(unittest.TestCase):
    def test_the_same_rows_in_another_order_and_several_times_lead_to_the_same_answers(self):
        chance = random.Random(26)
        told = list(TOLD) + [
            "reading hill 0 00:20 0 7", "reading hill 0 00:20 1 6", "reading hill 0 00:20 1 4",
            "reading top 7 00:00 0 3",
        ]
        expected = answers_of(desk_of(told))
        for turn in range(30):
            rows = told + [row for row in chance.choices(told, k=10) if row.startswith(("reading", "rules"))]
            chance.shuffle(rows)
            self.assertEqual(answers_of(desk_of(rows)), expected)

    def test_units_and_checks_in_any_order_with_questions_between(self):
        chance = random.Random(27)
        expected = answers_of(desk_of(TOLD))
        for turn in range(10):
            desk = desk_of([])
            for row in chance.sample(TOLD, len(TOLD)):
                desk.say(row)
                answers_of(desk)
            self.assertEqual(answers_of(desk), expected)


class TakenBack(unittest.TestCase):
    def test_units_and_checks_can_be_taken_back_exactly(self):
        chance = random.Random(28)
        for turn in range(200):
            book = Book()
            for reading in some_readings(chance, 30):
                book.put(reading)
            units = [place + (chance.choice(FRACTIONS), chance.choice(FRACTIONS)) for place in some_places(chance, 10)]
            checks = [place + (chance.choice(FRACTIONS),) for place in some_places(chance, 10)]
            for reading, told in zip(book.kept(), row_of(book.kept(), units, checks), strict=True):
                mast, time, value = told
                told_too_much = taken_back(mast, time, value, checks)
                self.assertEqual((mast, time), reading[:2])
                self.assertEqual(number_back(mast, time, told_too_much, units), (reading[3], 1))


class Fills(unittest.TestCase):
    def test_fills_mark_nothing_and_are_in_no_sum(self):
        chance = random.Random(29)
        filled = 0
        for turn in range(100):
            told = rows_of(some_readings(chance, 25))
            rules = some_rules(chance, 3, MASTS)
            desk = desk_of(told + ["rules " + show_rules((rules, None))])
            other = desk_of(told + ["rules " + show_rules((rules, (10, 90)))])
            for asked in ["marks"] + ["stands " + mast for mast in MASTS]:
                self.assertEqual(desk.say(asked), other.say(asked))
            self.assertEqual(desk.say("parted " + show_rules((rules, (10, 90)))), "alike")
            for mast in MASTS:
                one, two = desk.say("day " + mast + " 0").split(" "), other.say("day " + mast + " 0").split(" ")
                self.assertEqual(one[:5], two[:5])
                count = len([fill for fill in other.say("fills " + mast).split("; ") if fill])
                self.assertEqual((one[5:], two[5:]), (["0"], [str(count)]) if len(one) > 1 else ([], []))
                filled += count
        self.assertGreater(filled, 100)


class Reach(unittest.TestCase):
    def test_a_reading_more_changes_marks_within_the_reach_of_the_rules_alone(self):
        chance = random.Random(30)
        changed = 0
        for turn in range(300):
            readings = some_readings(chance, 25)
            more = (chance.choice(MASTS), 10 * chance.randrange(20) + 5, 0, chance.randrange(-9, 10))
            rules = some_rules(chance, 2, (), 2)
            told = rows_of(readings) + ["rules " + show_rules((rules, None))]
            ones, twos = marks_of(desk_of(told)), marks_of(desk_of(told + rows_of([more])))
            keys = {reading[:2] for reading in readings}
            both = [key for key in keys if key not in ones and key not in twos and key[0] == more[0]]
            for key in keys:
                between = [one for one in both if min(key[1], more[1]) < one[1] < max(key[1], more[1])]
                if key[0] != more[0] or len(between) >= reach(rules):
                    self.assertEqual(ones.get(key), twos.get(key), (readings, more, rules))
                changed += ones.get(key) != twos.get(key)
        self.assertGreater(changed, 20)


if __name__ == "__main__":
    unittest.main()
