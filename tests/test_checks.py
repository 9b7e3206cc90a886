import copy
import fractions
import itertools
import random
import unittest

from weather.checks import off_at, put_right, taken_back

LAST = 10 ** 9
CHECKS = [("hill", 100, (1, 2)), ("hill", 160, (-5, 2)), ("hill", 200, (3, 1)), ("sea", 150, (7, 3))]
VALUES = ((0, 1), (5, 1), (-35, 12), (10 ** 60 - 1, 8))


def as_tuple(one):
    return (one.numerator, one.denominator)


class Checked(unittest.TestCase):
    def assert_fraction(self, one, expected):
        self.assertEqual(one, expected)
        self.assertIs(type(one), tuple)
        self.assertEqual([type(part) for part in one], [int, int])

    def assert_off(self, mast, time, checks, expected):
        for order in itertools.permutations(checks):
            handed = list(order)
            self.assert_fraction(off_at(mast, time, handed), expected)
            self.assert_fraction(off_at(mast, time, handed), expected)
            self.assert_put_right(mast, time, handed, fractions.Fraction(*expected))
            self.assertEqual(handed, list(order))

    def assert_put_right(self, mast, time, checks, off):
        for value in VALUES:
            right = as_tuple(fractions.Fraction(*value) - off)
            back = as_tuple(fractions.Fraction(*value) + off)
            self.assert_fraction(put_right(mast, time, value, checks), right)
            self.assert_fraction(taken_back(mast, time, value, checks), back)
            self.assert_fraction(taken_back(mast, time, right, checks), value)
            self.assert_fraction(put_right(mast, time, back, checks), value)


class Off(Checked):
    def test_without_a_check(self):
        for time in (0, 100, LAST):
            self.assert_off("hill", time, [], (0, 1))

    def test_checks_of_other_masts_alone(self):
        for time in (0, 100, 150, LAST):
            self.assert_off("hills", time, CHECKS, (0, 1))
            self.assert_off("hil", time, CHECKS, (0, 1))

    def test_one_check(self):
        for time in (0, 149, 150, 151, LAST):
            self.assert_off("sea", time, CHECKS, (7, 3))
            self.assert_off("sea", time, [("sea", 150, (-7, 3))], (-7, 3))

    def test_ahead_of_the_first(self):
        for time in (0, 1, 99):
            self.assert_off("hill", time, CHECKS, (1, 2))

    def test_at_a_checks_own_time(self):
        self.assert_off("hill", 100, CHECKS, (1, 2))
        self.assert_off("hill", 160, CHECKS, (-5, 2))
        self.assert_off("hill", 200, CHECKS, (3, 1))

    def test_behind_the_last(self):
        for time in (201, 5000, LAST):
            self.assert_off("hill", time, CHECKS, (3, 1))

    def test_between_two_neighbours(self):
        self.assert_off("hill", 101, CHECKS, (9, 20))
        self.assert_off("hill", 110, CHECKS, (0, 1))
        self.assert_off("hill", 130, CHECKS, (-1, 1))
        self.assert_off("hill", 145, CHECKS, (-7, 4))
        self.assert_off("hill", 159, CHECKS, (-49, 20))
        self.assert_off("hill", 161, CHECKS, (-189, 80))
        self.assert_off("hill", 180, CHECKS, (1, 4))
        self.assert_off("hill", 199, CHECKS, (229, 80))

    def test_one_minute_apart(self):
        checks = [("hill", 7, (1, 3)), ("hill", 8, (2, 3))]
        for time, off in ((6, (1, 3)), (7, (1, 3)), (8, (2, 3)), (9, (2, 3))):
            self.assert_off("hill", time, checks, off)

    def test_neighbours_of_the_same_off(self):
        checks = [("hill", 10, (-2, 7)), ("hill", 20, (-2, 7))]
        for time in (0, 10, 13, 20, 99):
            self.assert_off("hill", time, checks, (-2, 7))

    def test_first_and_last_time(self):
        checks = [("hill", 0, (0, 1)), ("hill", LAST, (1, 1))]
        for time in (0, 1, 10 ** 8, LAST - 1, LAST):
            self.assert_off("hill", time, checks, as_tuple(fractions.Fraction(time, LAST)))

    def test_a_check_of_another_mast_between(self):
        checks = [("hill", 0, (0, 1)), ("sea", 5, (99, 1)), ("hill", 10, (10, 1))]
        for time in range(11):
            self.assert_off("hill", time, checks, (time, 1))
            self.assert_off("sea", time, checks, (99, 1))

    def test_forty_checks_by_exact_reckoning(self):
        chance = random.Random(11)
        times = sorted(chance.sample(range(2000), 40))
        tops = [chance.randrange(1 - 10 ** 9, 10 ** 9) for time in times]
        offs = [fractions.Fraction(top, chance.randrange(1, 10 ** 6)) for top in tops]
        checks = [("hill", time, as_tuple(off)) for time, off in zip(times, offs)]
        chance.shuffle(checks)
        for place in range(39):
            first, second = times[place], times[place + 1]
            for time in range(first, second):
                share = fractions.Fraction(time - first, second - first)
                off = (1 - share) * offs[place] + share * offs[place + 1]
                self.assert_fraction(off_at("hill", time, checks), as_tuple(off))


class PutRight(Checked):
    def test_too_much_is_taken_away(self):
        self.assert_fraction(put_right("hill", 100, (10, 1), CHECKS), (19, 2))
        self.assert_fraction(taken_back("hill", 100, (19, 2), CHECKS), (10, 1))

    def test_too_little_is_added(self):
        self.assert_fraction(put_right("hill", 160, (10, 1), CHECKS), (25, 2))
        self.assert_fraction(taken_back("hill", 160, (25, 2), CHECKS), (10, 1))

    def test_without_a_check(self):
        for value in VALUES:
            self.assert_fraction(put_right("hill", 5, value, []), value)
            self.assert_fraction(taken_back("hill", 5, value, []), value)


class HandedIn(unittest.TestCase):
    def test_the_list_of_checks_is_left_as_it_was(self):
        for order in itertools.permutations(CHECKS):
            handed = list(order)
            ahead = copy.deepcopy(handed)
            for time in (0, 100, 130, 160, 180, LAST):
                off_at("hill", time, handed)
                put_right("hill", time, (5, 2), handed)
                taken_back("hill", time, (5, 2), handed)
            self.assertEqual(handed, ahead)

    def test_what_is_done_to_the_list_later_counts(self):
        checks = [("hill", 100, (1, 1))]
        self.assertEqual(off_at("hill", 150, checks), (1, 1))
        checks.append(("hill", 200, (3, 1)))
        self.assertEqual(off_at("hill", 150, checks), (2, 1))
        checks.clear()
        self.assertEqual(off_at("hill", 150, checks), (0, 1))


if __name__ == "__main__":
    unittest.main()
