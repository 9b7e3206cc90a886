import copy
import fractions
import itertools
import random
import unittest

from weather.units import meaning, number_back

LAST = 10 ** 9
SIXTY = 10 ** 60 - 1
# The last two are of one time, but of two masts.
UNITS = [
    ("hill", 100, (1, 10), (0, 1)),
    ("hill", 200, (-5, 9), (-160, 9)),
    ("hill", 300, (2, 1), (-1, 2)),
    ("sea", 200, (3, 1), (7, 1)),
]


def as_tuple(one):
    return (one.numerator, one.denominator)


class Checked(unittest.TestCase):
    def assert_fraction(self, one, expected):
        self.assertEqual(one, expected)
        self.assertIs(type(one), tuple)
        self.assertEqual([type(part) for part in one], [int, int])

    def assert_means(self, reading, units, expected):
        mast, time, turn, number = reading
        for order in itertools.permutations(units):
            handed = list(order)
            self.assert_fraction(meaning(reading, handed), expected)
            self.assert_fraction(meaning(reading, handed), expected)
            self.assert_fraction(number_back(mast, time, expected, handed), (number, 1))
            self.assertEqual(handed, list(order))


class Meaning(Checked):
    def test_without_a_unit(self):
        for number in (0, 1, -35, SIXTY, -SIXTY):
            self.assert_means(("hill", 5, 0, number), [], (number, 1))

    def test_units_of_other_masts_alone(self):
        self.assert_means(("hills", 500, 0, 12), UNITS, (12, 1))
        self.assert_means(("hil", 500, 0, 12), UNITS, (12, 1))

    def test_ahead_of_the_first(self):
        self.assert_means(("hill", 0, 0, 12), UNITS, (12, 1))
        self.assert_means(("hill", 99, 0, 12), UNITS, (12, 1))
        self.assert_means(("sea", 199, 0, 12), UNITS, (12, 1))

    def test_at_a_units_own_time(self):
        self.assert_means(("hill", 100, 0, 12), UNITS, (6, 5))
        self.assert_means(("hill", 200, 0, 13), UNITS, (-25, 1))
        self.assert_means(("hill", 300, 0, 12), UNITS, (47, 2))
        self.assert_means(("sea", 200, 0, 12), UNITS, (43, 1))

    def test_between_two(self):
        for time in (101, 150, 199):
            self.assert_means(("hill", time, 0, 12), UNITS, (6, 5))
        for time in (201, 250, 299):
            self.assert_means(("hill", time, 0, 13), UNITS, (-25, 1))

    def test_behind_the_last(self):
        for time in (301, 5000, LAST):
            self.assert_means(("hill", time, 0, 12), UNITS, (47, 2))
            self.assert_means(("sea", time, 0, -12), UNITS, (-29, 1))

    def test_first_and_last_time(self):
        units = [("hill", 0, (1, 2), (0, 1)), ("hill", LAST, (1, 3), (1, 1))]
        self.assert_means(("hill", 0, 0, 1), units, (1, 2))
        self.assert_means(("hill", LAST - 1, 0, 1), units, (1, 2))
        self.assert_means(("hill", LAST, 0, 1), units, (4, 3))

    def test_factors_below_nought(self):
        units = [("hill", 0, (-1, 1), (0, 1))]
        for number in (0, 5, -5):
            self.assert_means(("hill", 7, 0, number), units, (-number, 1))
        self.assert_means(("hill", 7, 0, 4), [("hill", 7, (-3, 8), (1, 6))], (-4, 3))

    def test_the_shift_is_no_factor(self):
        units = [("hill", 0, (2, 3), (5, 7))]
        self.assert_means(("hill", 0, 0, 0), units, (5, 7))
        self.assert_means(("hill", 0, 0, 1), units, (29, 21))
        self.assert_means(("hill", 0, 0, -3), units, (-9, 7))

    def test_the_turn_counts_for_nothing(self):
        for turn in (0, 1, LAST):
            self.assert_means(("hill", 150, turn, 12), UNITS, (6, 5))

    def test_numbers_of_sixty_figures(self):
        factor = (-(10 ** 9 - 1), 10 ** 6 - 1)
        shift = (10 ** 9 - 2, 10 ** 6 - 3)
        for number in (SIXTY, -SIXTY, 10 ** 59, SIXTY - 1):
            expected = number * fractions.Fraction(*factor) + fractions.Fraction(*shift)
            self.assert_means(("hill", 5, 0, number), [("hill", 5, factor, shift)], as_tuple(expected))


class TakenBack(Checked):
    def test_a_value_that_no_number_means(self):
        self.assert_fraction(number_back("hill", 300, (0, 1), UNITS), (1, 4))
        self.assert_fraction(number_back("hill", 300, (1, 3), UNITS), (5, 12))
        self.assert_fraction(number_back("hill", 100, (1, 3), UNITS), (10, 3))
        self.assert_fraction(number_back("hill", 200, (1, 1), UNITS), (-169, 5))
        self.assert_fraction(number_back("sea", 200, (0, 1), UNITS), (-7, 3))

    def test_without_a_unit(self):
        for units in ([], UNITS):
            for value in ((0, 1), (-5, 7), (SIXTY, 2)):
                self.assert_fraction(number_back("hill", 99, value, units), value)

    def test_every_kind_of_value_by_exact_reckoning(self):
        chance = random.Random(8)
        for turn in range(400):
            sign = chance.choice((-1, 1))
            factor = fractions.Fraction(sign * chance.randrange(1, 10 ** 9), chance.randrange(1, 10 ** 6))
            shift = fractions.Fraction(chance.randrange(1 - 10 ** 9, 10 ** 9), chance.randrange(1, 10 ** 6))
            value = fractions.Fraction(chance.randrange(-SIXTY, SIXTY), chance.randrange(1, 10 ** 6))
            units = [("hill", 9, as_tuple(factor), as_tuple(shift))]
            number = chance.randrange(-SIXTY, SIXTY)
            self.assert_means(("hill", 9, 0, number), units, as_tuple(number * factor + shift))
            self.assert_fraction(number_back("hill", 9, as_tuple(value), units), as_tuple((value - shift) / factor))


class HandedIn(unittest.TestCase):
    def test_the_list_of_units_is_left_as_it_was(self):
        for order in itertools.permutations(UNITS):
            handed = list(order)
            ahead = copy.deepcopy(handed)
            for time in (0, 100, 250, LAST):
                meaning(("hill", time, 0, 5), handed)
                number_back("hill", time, (5, 2), handed)
            self.assertEqual(handed, ahead)

    def test_what_is_done_to_the_list_later_counts(self):
        units = list(UNITS)
        self.assertEqual(meaning(("hill", 150, 0, 12), units), (6, 5))
        units.append(("hill", 150, (1, 1), (1, 1)))
        self.assertEqual(meaning(("hill", 150, 0, 12), units), (13, 1))
        units.clear()
        self.assertEqual(meaning(("hill", 150, 0, 12), units), (12, 1))

    def test_forty_units(self):
        units = [("hill", 10 * step, (step + 1, 1), (0, 1)) for step in range(40)]
        random.Random(9).shuffle(units)
        for step in range(40):
            for time in (10 * step, 10 * step + 9):
                self.assertEqual(meaning(("hill", time, 0, 2), units), (2 * step + 2, 1))


if __name__ == "__main__":
    unittest.main()
