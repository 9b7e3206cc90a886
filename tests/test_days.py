import copy
import fractions
import random
import unittest

from some_rows import as_tuple, judged_by_hand, some_row, some_rules
from weather.days import days, weeks
from weather.fills import fills
from weather.marks import standing
from weather.reading import read_rules

DAY = 1440
BIG = "mark big: 50 < here"
ALL = "mark all: 0 < 1"


def put_together_by_hand(some):
    """Of tuples (mast, number, value of what stands or None, marked, filled)."""
    told = []
    for number, mast in sorted({(one[1], one[0]) for one in some}):
        own = [one[2:] for one in some if one[:2] == (mast, number)]
        values = sorted([fractions.Fraction(*one[0]) for one in own if one[0] is not None])
        least = as_tuple(values[0]) if values else None
        greatest = as_tuple(values[-1]) if values else None
        total = as_tuple(sum(values, fractions.Fraction(0)))
        marked = sum(one[1] for one in own)
        told.append((mast, number, len(values), total, least, greatest, marked, sum(one[2] for one in own)))
    return told


def days_by_hand(row, rules, fill, length):
    stands = judged_by_hand(row, rules)[1]
    some = [(mast, time // length, value, 0, 0) for mast, time, value in stands]
    some += [(one[0], one[1] // length, None, 1, 0) for one in row if one not in stands]
    if fill is not None:
        some += [(one[0], one[1] // length, None, 0, 1) for one in fills(stands, *fill)]
    return put_together_by_hand(some)


class Told(unittest.TestCase):
    def assert_days(self, row, text, fill, expected):
        rules = read_rules(text)[0]
        ahead = copy.deepcopy((row, rules))
        for turn in range(2):
            self.assert_told(days(row, rules, fill), expected)
        if fill is None:
            self.assert_told(days(row, rules), expected)
        self.assert_told(days(row, rules, fill=fill), expected)
        self.assertEqual((row, rules), ahead)

    def assert_weeks(self, some, expected):
        ahead = copy.deepcopy(some)
        for turn in range(2):
            self.assert_told(weeks(some), expected)
        self.assertEqual(some, ahead)

    def assert_told(self, told, expected):
        self.assertEqual(told, expected)
        self.assertIs(type(told), list)
        for one in told:
            self.assertEqual([type(one), len(one)], [tuple, 8])
            self.assertEqual([type(one[place]) for place in (1, 2, 6, 7)], [int] * 4)


class Days(Told):
    def test_a_row_without_readings(self):
        self.assert_days([], "", None, [])
        self.assert_days([], BIG, (10, 60), [])

    def test_all_stand(self):
        row = [("hill", 5, (3, 1)), ("hill", 7, (-4, 1)), ("hill", 9, (1, 1))]
        self.assert_days(row, "", None, [("hill", 0, 3, (0, 1), (-4, 1), (3, 1), 0, 0)])
        self.assert_days(row, BIG, None, [("hill", 0, 3, (0, 1), (-4, 1), (3, 1), 0, 0)])

    def test_one_reading(self):
        self.assert_days([("hill", 5, (7, 2))], "", None, [("hill", 0, 1, (7, 2), (7, 2), (7, 2), 0, 0)])

    def test_some_marked(self):
        row = [("hill", 5, (3, 1)), ("hill", 7, (90, 1)), ("hill", 9, (1, 1)), ("hill", 11, (60, 1))]
        self.assert_days(row, BIG, None, [("hill", 0, 2, (4, 1), (1, 1), (3, 1), 2, 0)])

    def test_all_marked(self):
        row = [("hill", 5, (3, 1)), ("hill", 7, (90, 1))]
        self.assert_days(row, ALL, None, [("hill", 0, 0, (0, 1), None, None, 2, 0)])
        self.assert_days(row, ALL, (1, 10), [("hill", 0, 0, (0, 1), None, None, 2, 0)])

    def test_marked_by_several_rules_is_counted_once_each(self):
        row = [("hill", 5, (3, 1)), ("hill", 7, (90, 1)), ("hill", 9, (1, 1))]
        self.assert_days(row, BIG + "\nmark more: 1 < here", None, [
            ("hill", 0, 1, (1, 1), (1, 1), (1, 1), 2, 0),
        ])

    def test_a_days_first_and_last_minute(self):
        row = [("hill", time, (time, 1)) for time in (0, 1439, 1440, 2879, 2880)]
        self.assert_days(row, "", None, [
            ("hill", 0, 2, (1439, 1), (0, 1), (1439, 1), 0, 0),
            ("hill", 1, 2, (4319, 1), (1440, 1), (2879, 1), 0, 0),
            ("hill", 2, 1, (2880, 1), (2880, 1), (2880, 1), 0, 0),
        ])

    def test_a_day_without_any_is_not_told(self):
        row = [("hill", 0, (1, 1)), ("hill", 5 * DAY, (2, 1))]
        self.assert_days(row, "", None, [
            ("hill", 0, 1, (1, 1), (1, 1), (1, 1), 0, 0), ("hill", 5, 1, (2, 1), (2, 1), (2, 1), 0, 0),
        ])

    def test_fills_are_counted_and_in_no_sum(self):
        row = [("hill", 0, (1, 1)), ("hill", 40, (5, 1))]
        self.assert_days(row, "", (10, 60), [("hill", 0, 2, (6, 1), (1, 1), (5, 1), 0, 3)])
        self.assert_days(row, "", None, [("hill", 0, 2, (6, 1), (1, 1), (5, 1), 0, 0)])
        self.assert_days(row, "", (10, 39), [("hill", 0, 2, (6, 1), (1, 1), (5, 1), 0, 0)])

    def test_a_day_with_fills_alone(self):
        row = [("hill", 0, (1, 1)), ("hill", 2 * DAY, (5, 1))]
        self.assert_days(row, "", (700, 10000), [
            ("hill", 0, 1, (1, 1), (1, 1), (1, 1), 0, 2),
            ("hill", 1, 0, (0, 1), None, None, 0, 2),
            ("hill", 2, 1, (5, 1), (5, 1), (5, 1), 0, 0),
        ])

    def test_fills_are_of_what_stands(self):
        row = [("hill", 0, (1, 1)), ("hill", 10, (90, 1)), ("hill", 20, (5, 1))]
        self.assert_days(row, BIG, (10, 60), [("hill", 0, 2, (6, 1), (1, 1), (5, 1), 1, 1)])
        self.assert_days(row, "", (10, 60), [("hill", 0, 3, (96, 1), (1, 1), (90, 1), 0, 0)])

    def test_fills_and_marked_readings_on_both_sides_of_midnight(self):
        row = [("hill", 1430, (1, 1)), ("hill", 1439, (99, 1)), ("hill", 1441, (98, 1)), ("hill", 1445, (4, 1))]
        self.assert_days(row, BIG, (5, 60), [
            ("hill", 0, 1, (1, 1), (1, 1), (1, 1), 1, 1), ("hill", 1, 1, (4, 1), (4, 1), (4, 1), 1, 1),
        ])

    def test_several_masts_by_day_then_mast(self):
        row = [
            ("sea", 3, (1, 1)), ("hill", 5, (2, 1)), ("sea", 7, (3, 1)), ("a", DAY, (60, 1)), ("sea", DAY, (5, 1)),
            ("hill", DAY + 1, (6, 1)),
        ]
        self.assert_days(row, BIG, None, [
            ("hill", 0, 1, (2, 1), (2, 1), (2, 1), 0, 0),
            ("sea", 0, 2, (4, 1), (1, 1), (3, 1), 0, 0),
            ("a", 1, 0, (0, 1), None, None, 1, 0),
            ("hill", 1, 1, (6, 1), (6, 1), (6, 1), 0, 0),
            ("sea", 1, 1, (5, 1), (5, 1), (5, 1), 0, 0),
        ])

    def test_days_by_number_not_by_figures(self):
        row = [("hill", 9 * DAY, (1, 1)), ("hill", 10 * DAY, (2, 1)), ("hill", 100 * DAY, (2, 1))]
        self.assertEqual([one[1] for one in days(row, [])], [9, 10, 100])

    def test_sums_least_and_greatest_of_fractions(self):
        row = [("hill", 1, (1, 2)), ("hill", 2, (1, 3)), ("hill", 3, (-7, 6)), ("hill", 4, (2, 5)), ("hill", 5, (4, 9))]
        self.assert_days(row, "", None, [("hill", 0, 5, (23, 45), (-7, 6), (1, 2), 0, 0)])
        below = [("hill", 1, (-1, 2)), ("hill", 2, (-1, 3)), ("hill", 3, (-2, 5))]
        self.assert_days(below, "", None, [("hill", 0, 3, (-37, 30), (-1, 2), (-1, 3), 0, 0)])

    def test_the_bounds(self):
        most = 10 ** 60 - 1
        row = [("hill", 10 ** 9 - 1, (most, 2)), ("hill", 10 ** 9, (-most, 19))]
        self.assert_days(row, "", None, [
            ("hill", 694444, 2, (17 * most, 38), (-most, 19), (most, 2), 0, 0),
        ])

    def test_many_rows(self):
        chance = random.Random(21)
        for turn in range(300):
            row = [(mast, time * 211, value) for mast, time, value in some_row(chance, 25, 60)]
            rules = some_rules(chance, 3)
            step = chance.randrange(1, 400)
            fill = chance.choice((None, (step, chance.randrange(step, 4 * step))))
            told = days(row, rules, fill)
            self.assert_told(told, days_by_hand(row, rules, fill, DAY))
            self.assert_weeks(told, days_by_hand(row, rules, fill, 7 * DAY))

    def test_two_hundred_readings_with_all_their_fills(self):
        row = [("hill", 100 * place, (place, place % 7 * 6 + 1)) for place in range(200)]
        row = [(mast, time, as_tuple(fractions.Fraction(*value))) for mast, time, value in row]
        told = days(row, [], (1, 100))
        self.assertEqual(sum(one[7] for one in told), 199 * 99)
        self.assertEqual(sum(one[2] for one in told), 200)
        self.assert_told(told, days_by_hand(row, [], (1, 100), DAY))

    def test_what_is_told_is_the_askers_own(self):
        row = [("hill", 0, (1, 1)), ("hill", 40, (5, 1))]
        told = days(row, [], (10, 60))
        kept = list(told)
        row.clear()
        self.assertEqual(told, kept)
        told.clear()
        self.assertEqual(days([("hill", 0, (1, 1)), ("hill", 40, (5, 1))], [], (10, 60)), kept)


class Weeks(Told):
    def test_no_day(self):
        self.assert_weeks([], [])

    def test_one_day(self):
        self.assert_weeks(
            [("hill", 13, 2, (6, 1), (1, 1), (5, 1), 3, 4)], [("hill", 1, 2, (6, 1), (1, 1), (5, 1), 3, 4)],
        )

    def test_days_of_one_week(self):
        some = [
            ("hill", 0, 2, (6, 1), (1, 1), (5, 1), 1, 2), ("hill", 3, 1, (-7, 2), (-7, 2), (-7, 2), 0, 5),
            ("hill", 6, 3, (1, 3), (-2, 1), (4, 3), 2, 0),
        ]
        self.assert_weeks(some, [("hill", 0, 6, (17, 6), (-7, 2), (5, 1), 3, 7)])

    def test_days_of_several_weeks(self):
        some = [("hill", day, 1, (day, 1), (day, 1), (day, 1), 0, 0) for day in (0, 6, 7, 13, 14, 70)]
        self.assert_weeks(some, [
            ("hill", 0, 2, (6, 1), (0, 1), (6, 1), 0, 0), ("hill", 1, 2, (20, 1), (7, 1), (13, 1), 0, 0),
            ("hill", 2, 1, (14, 1), (14, 1), (14, 1), 0, 0), ("hill", 10, 1, (70, 1), (70, 1), (70, 1), 0, 0),
        ])

    def test_a_day_where_none_stands_among_others(self):
        none = ("hill", 2, 0, (0, 1), None, None, 4, 1)
        some = ("hill", 3, 2, (-6, 1), (-5, 1), (-1, 1), 1, 0)
        more = ("hill", 1, 1, (2, 1), (2, 1), (2, 1), 0, 0)
        self.assert_weeks([none, some], [("hill", 0, 2, (-6, 1), (-5, 1), (-1, 1), 5, 1)])
        self.assert_weeks([more, none, some], [("hill", 0, 3, (-4, 1), (-5, 1), (2, 1), 5, 1)])
        self.assert_weeks([more, none], [("hill", 0, 1, (2, 1), (2, 1), (2, 1), 4, 1)])

    def test_days_where_none_stands_alone(self):
        some = [("hill", 2, 0, (0, 1), None, None, 4, 1), ("hill", 3, 0, (0, 1), None, None, 0, 9)]
        self.assert_weeks(some, [("hill", 0, 0, (0, 1), None, None, 4, 10)])

    def test_several_masts_by_week_then_mast(self):
        some = [
            ("sea", 0, 1, (1, 1), (1, 1), (1, 1), 0, 0), ("hill", 1, 1, (2, 1), (2, 1), (2, 1), 0, 0),
            ("sea", 6, 1, (3, 1), (3, 1), (3, 1), 0, 0), ("a", 8, 1, (4, 1), (4, 1), (4, 1), 0, 0),
            ("hill", 8, 0, (0, 1), None, None, 1, 0),
        ]
        self.assert_weeks(some, [
            ("hill", 0, 1, (2, 1), (2, 1), (2, 1), 0, 0), ("sea", 0, 2, (4, 1), (1, 1), (3, 1), 0, 0),
            ("a", 1, 1, (4, 1), (4, 1), (4, 1), 0, 0), ("hill", 1, 0, (0, 1), None, None, 1, 0),
        ])

    def test_weeks_of_days_of_a_row(self):
        row = [("hill", 6 * DAY + 1439, (1, 2)), ("hill", 7 * DAY, (1, 3)), ("hill", 8 * DAY, (99, 1))]
        told = days(row, read_rules(BIG)[0], (1, 100))
        self.assert_weeks(told, [
            ("hill", 0, 1, (1, 2), (1, 2), (1, 2), 0, 0), ("hill", 1, 1, (1, 3), (1, 3), (1, 3), 1, 0),
        ])

    def test_what_is_told_is_the_askers_own(self):
        some = [("hill", 13, 2, (6, 1), (1, 1), (5, 1), 3, 4)]
        told = weeks(some)
        told.append(None)
        some.clear()
        self.assertEqual(told, [("hill", 1, 2, (6, 1), (1, 1), (5, 1), 3, 4), None])


class Sums(unittest.TestCase):
    def test_a_days_sum_is_that_of_the_readings_that_stand(self):
        chance = random.Random(22)
        for turn in range(100):
            row = [(mast, time * 500, value) for mast, time, value in some_row(chance, 25, 40)]
            rules = some_rules(chance, 3)
            stands = standing(row, rules)
            for mast, day, stood, total, least, greatest, marked, filled in days(row, rules, (100, 1000)):
                own = [one[2] for one in stands if one[0] == mast and one[1] // DAY == day]
                self.assertEqual(stood, len(own))
                self.assertEqual(total, as_tuple(sum([fractions.Fraction(*one) for one in own], fractions.Fraction(0))))


if __name__ == "__main__":
    unittest.main()
