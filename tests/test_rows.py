import copy
import fractions
import itertools
import random
import unittest

from some_rows import as_tuple
from weather.book import Book
from weather.rows import row_of

SIXTY = 10 ** 60 - 1
LAST = 10 ** 9
UNITS = [
    ("hill", 100, (1, 10), (0, 1)),
    ("hill", 200, (-5, 9), (-160, 9)),
    ("sea", 150, (2, 1), (-1, 2)),
]
CHECKS = [
    ("hill", 120, (1, 2)),
    ("hill", 220, (-5, 2)),
    ("sea", 200, (7, 3)),
]


def value_by_hand(reading, units, checks):
    mast, time, turn, number = reading
    own = sorted([unit for unit in units if unit[0] == mast and unit[1] <= time], key=lambda unit: unit[1])
    value = fractions.Fraction(number)
    if own:
        value = value * fractions.Fraction(*own[-1][2]) + fractions.Fraction(*own[-1][3])
    points = sorted([(check[1], fractions.Fraction(*check[2])) for check in checks if check[0] == mast])
    if not points:
        return value
    if time <= points[0][0]:
        return value - points[0][1]
    for (start, first), (end, second) in zip(points, points[1:]):
        if start <= time <= end:
            return value - first - fractions.Fraction(time - start, end - start) * (second - first)
    return value - points[-1][1]


class Rows(unittest.TestCase):
    def assert_row(self, readings, units, checks, expected):
        ahead = copy.deepcopy((readings, units, checks))
        for turn in range(2):
            told = row_of(readings, units, checks)
            self.assertEqual(told, expected)
            self.assertIs(type(told), list)
            for reading in told:
                self.assertEqual([type(reading), len(reading), type(reading[2])], [tuple, 3, tuple])
                self.assertEqual([type(part) for part in reading[2]], [int, int])
        self.assertEqual((readings, units, checks), ahead)

    def test_no_reading(self):
        self.assert_row([], [], [], [])
        self.assert_row([], UNITS, CHECKS, [])

    def test_without_units_and_checks(self):
        self.assert_row(
            [("hill", 5, 3, -35), ("sea", 5, 0, 0), ("hill", 6, 0, 7)], [], [],
            [("hill", 5, (-35, 1)), ("sea", 5, (0, 1)), ("hill", 6, (7, 1))],
        )

    def test_units_alone(self):
        self.assert_row(
            [("hill", 99, 0, 12), ("hill", 100, 0, 12), ("sea", 149, 0, 12), ("sea", 150, 0, 12), ("hill", 200, 0, 13)],
            UNITS, [],
            [("hill", 99, (12, 1)), ("hill", 100, (6, 5)), ("sea", 149, (12, 1)), ("sea", 150, (47, 2)),
             ("hill", 200, (-25, 1))],
        )

    def test_checks_alone(self):
        self.assert_row(
            [("hill", 0, 0, 1), ("hill", 120, 0, 1), ("hill", 170, 0, 1), ("sea", 200, 0, 1), ("hill", 220, 0, 1),
             ("hill", 221, 0, 1)],
            [], CHECKS,
            [("hill", 0, (1, 2)), ("hill", 120, (1, 2)), ("hill", 170, (2, 1)), ("sea", 200, (-4, 3)),
             ("hill", 220, (7, 2)), ("hill", 221, (7, 2))],
        )

    def test_the_meaning_is_put_right_not_the_number(self):
        readings = [("hill", 145, 0, 12), ("sea", 160, 0, 3), ("top", 160, 0, 3), ("hill", 210, 0, 9)]
        # 12/10 + 1/4; 6 - 1/2 - 7/3; 3 itself; -5 - 160/9 + 22/10.
        expected = [("hill", 145, (29, 20)), ("sea", 160, (19, 6)), ("top", 160, (3, 1)), ("hill", 210, (-926, 45))]
        for units in itertools.permutations(UNITS):
            for checks in itertools.permutations(CHECKS):
                self.assert_row(readings, list(units), list(checks), expected)

    def test_a_units_and_a_checks_time_are_their_own(self):
        units = [("hill", 100, (2, 1), (1, 1))]
        checks = [("hill", 100, (1, 1)), ("hill", 102, (2, 1))]
        readings = [("hill", time, 0, 10) for time in (99, 100, 101, 102, 103)]
        self.assert_row(
            readings, units, checks,
            [("hill", 99, (9, 1)), ("hill", 100, (20, 1)), ("hill", 101, (39, 2)), ("hill", 102, (19, 1)),
             ("hill", 103, (19, 1))],
        )

    def test_the_turn_does_not_matter(self):
        self.assert_row([("hill", 145, LAST, 12)], UNITS, CHECKS, [("hill", 145, (29, 20))])

    def test_numbers_of_sixty_figures(self):
        units = [("hill", 0, (999999999, 999998), (-999999999, 999999))]
        checks = [("hill", 0, (999999999, 999997)), ("hill", LAST, (-999999998, 999999))]
        readings = [("hill", 7, 0, SIXTY), ("sea", 7, 0, -SIXTY), ("hill", LAST, 0, -SIXTY)]
        expected = [(one[0], one[1], as_tuple(value_by_hand(one, units, checks))) for one in readings]
        self.assertEqual(expected[1], ("sea", 7, (-SIXTY, 1)))
        self.assert_row(readings, units, checks, expected)

    def test_a_books_row(self):
        book = Book()
        for reading in (("sea", 160, 0, 3), ("hill", 145, 0, 99), ("hill", 145, 1, 12), ("sea", 145, 0, 1)):
            book.put(reading)
        self.assert_row(
            book.kept(), UNITS, CHECKS, [("hill", 145, (29, 20)), ("sea", 145, (-4, 3)), ("sea", 160, (19, 6))],
        )

    def test_many_rows(self):
        chance = random.Random(15)
        for turn in range(150):
            masts = ("hill", "sea", "top")
            places = [(time, mast) for time in range(30) for mast in masts]
            def fraction():
                return as_tuple(fractions.Fraction(chance.randrange(-9, 10), chance.randrange(1, 5)))
            readings = [
                (mast, time, chance.randrange(3), chance.randrange(-50, 50))
                for time, mast in sorted(chance.sample(places, chance.randrange(40)))
            ]
            units = [
                (mast, time, as_tuple(fractions.Fraction(chance.choice((-3, 1, 5)), 4)), fraction())
                for time, mast in chance.sample(places, chance.randrange(8))
            ]
            checks = [(mast, time, fraction()) for time, mast in chance.sample(places, chance.randrange(8))]
            expected = [(one[0], one[1], as_tuple(value_by_hand(one, units, checks))) for one in readings]
            self.assert_row(readings, units, checks, expected)

    def test_the_bounds(self):
        readings = [("hill", 5 * place, 0, place) for place in range(200)]
        units = [("hill", 20 * place, (place + 1, 7), (1, place + 1)) for place in range(40)]
        checks = [("hill", 21 * place, (place, 3)) for place in range(40)]
        expected = [(one[0], one[1], as_tuple(value_by_hand(one, units, checks))) for one in readings]
        self.assert_row(readings, units, checks, expected)
        self.assert_row(readings, units[::-1], checks[::-1], expected)

    def test_what_is_told_is_the_askers_own(self):
        readings = [("hill", 145, 0, 12), ("sea", 160, 0, 3)]
        told = row_of(readings, [], [])
        kept = list(told)
        told.append(("top", 200, (1, 1)))
        readings.clear()
        self.assertEqual(told[:2], kept)
        self.assertEqual(row_of([("hill", 145, 0, 12), ("sea", 160, 0, 3)], [], []), kept)


if __name__ == "__main__":
    unittest.main()
