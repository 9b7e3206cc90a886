import copy
import fractions
import random
import unittest

from some_rows import as_tuple, some_row
from weather.fills import fills


def fills_by_hand(row, step, most):
    found = []
    for mast in {reading[0] for reading in row}:
        own = sorted([reading[1:] for reading in row if reading[0] == mast])
        for (start, first), (end, second) in zip(own, own[1:]):
            if not step < end - start <= most:
                continue
            one, other = fractions.Fraction(*first), fractions.Fraction(*second)
            for time in range(start, end):
                if time > start and (time - start) % step == 0:
                    value = one + (other - one) * fractions.Fraction(time - start, end - start)
                    found.append((mast, time, as_tuple(value), start, end))
    return sorted(found, key=lambda fill: (fill[1], fill[0]))


def put_in(row, found):
    return sorted(row + [fill[:3] for fill in found], key=lambda reading: (reading[1], reading[0]))


class Fills(unittest.TestCase):
    def assert_fills(self, row, step, most, expected):
        ahead = copy.deepcopy(row)
        for turn in range(2):
            told = fills(row, step, most)
            self.assertEqual(told, expected)
            self.assertIs(type(told), list)
            for fill in told:
                self.assertEqual([type(fill), len(fill), type(fill[2])], [tuple, 5, tuple])
        self.assertEqual(row, ahead)
        self.assertEqual(fills(put_in(row, told), step, most), [])

    def gap(self, length, start=100):
        return [("hill", start, (0, 1)), ("hill", start + length, (length, 1))]

    def assert_times(self, length, step, most, times):
        expected = [("hill", time, (time - 100, 1), 100, 100 + length) for time in times]
        self.assert_fills(self.gap(length), step, most, expected)

    def test_no_reading(self):
        self.assert_fills([], 10, 60, [])

    def test_one_reading(self):
        self.assert_fills([("hill", 100, (1, 1))], 10, 60, [])
        self.assert_fills([("hill", 0, (1, 1))], 1, 100, [])

    def test_one_reading_of_each_of_two_masts(self):
        self.assert_fills([("hill", 100, (1, 1)), ("sea", 130, (4, 1))], 10, 60, [])

    def test_nearer_than_the_step(self):
        for length in (1, 5, 9):
            self.assert_times(length, 10, 60, [])

    def test_just_the_step_apart(self):
        self.assert_times(10, 10, 60, [])
        self.assert_times(1, 1, 1, [])

    def test_one_minute_more_than_the_step(self):
        self.assert_times(11, 10, 60, [110])
        self.assert_times(2, 1, 2, [101])

    def test_just_the_most_apart(self):
        self.assert_times(60, 10, 60, [110, 120, 130, 140, 150])
        self.assert_times(59, 10, 59, [110, 120, 130, 140, 150])
        self.assert_times(11, 10, 11, [110])

    def test_one_minute_more_than_the_most(self):
        self.assert_times(61, 10, 60, [])
        self.assert_times(12, 10, 11, [])

    def test_a_most_that_is_the_step(self):
        for length in (9, 10, 11, 20):
            self.assert_times(length, 10, 10, [])

    def test_a_gap_that_is_a_whole_number_of_steps(self):
        self.assert_times(20, 10, 60, [110])
        self.assert_times(30, 10, 60, [110, 120])

    def test_a_gap_that_is_none(self):
        self.assert_times(19, 10, 60, [110])
        self.assert_times(21, 10, 60, [110, 120])
        self.assert_times(33, 10, 60, [110, 120, 130])

    def test_values_on_the_straight_line_in_lowest_terms(self):
        self.assert_fills([("hill", 0, (1, 2)), ("hill", 25, (-3, 1))], 10, 60, [
            ("hill", 10, (-9, 10), 0, 25), ("hill", 20, (-23, 10), 0, 25),
        ])
        self.assert_fills([("hill", 5, (4, 3)), ("hill", 35, (4, 3))], 10, 60, [
            ("hill", 15, (4, 3), 5, 35), ("hill", 25, (4, 3), 5, 35),
        ])
        self.assert_fills([("hill", 0, (-1, 1)), ("hill", 4, (1, 1))], 2, 60, [("hill", 2, (0, 1), 0, 4)])
        self.assert_fills([("hill", 0, (0, 1)), ("hill", 6, (1, 1))], 2, 60, [
            ("hill", 2, (1, 3), 0, 6), ("hill", 4, (2, 3), 0, 6),
        ])

    def test_neighbours_alone(self):
        row = [("hill", 0, (0, 1)), ("hill", 20, (2, 1)), ("hill", 25, (9, 1)), ("hill", 45, (1, 1))]
        self.assert_fills(row, 10, 60, [("hill", 10, (1, 1), 0, 20), ("hill", 35, (5, 1), 25, 45)])
        self.assert_fills(row, 10, 19, [])

    def test_a_gap_too_long_among_others(self):
        row = [("hill", 0, (0, 1)), ("hill", 20, (2, 1)), ("hill", 81, (0, 1)), ("hill", 101, (4, 1))]
        self.assert_fills(row, 10, 60, [("hill", 10, (1, 1), 0, 20), ("hill", 91, (2, 1), 81, 101)])

    def test_two_masts_whose_fills_fall_on_the_same_time(self):
        row = [("b", 0, (0, 1)), ("a", 5, (0, 1)), ("b", 20, (2, 1)), ("a", 25, (4, 1))]
        self.assert_fills(row, 5, 60, [
            ("b", 5, (1, 2), 0, 20), ("a", 10, (1, 1), 5, 25), ("b", 10, (1, 1), 0, 20), ("a", 15, (2, 1), 5, 25),
            ("b", 15, (3, 2), 0, 20), ("a", 20, (3, 1), 5, 25),
        ])

    def test_a_mast_has_no_part_in_another_ones_gap(self):
        row = [("b", 0, (0, 1)), ("a", 10, (7, 1)), ("b", 20, (2, 1))]
        self.assert_fills(row, 10, 60, [("b", 10, (1, 1), 0, 20)])

    def test_the_order_is_by_time_then_mast(self):
        row = [
            ("c", 0, (0, 1)), ("a", 1, (0, 1)), ("b", 1, (0, 1)),
            ("c", 30, (3, 1)), ("b", 31, (3, 1)), ("a", 41, (4, 1)),
        ]
        told = fills(row, 10, 60)
        self.assertEqual([(fill[1], fill[0]) for fill in told], [
            (10, "c"), (11, "a"), (11, "b"), (20, "c"), (21, "a"), (21, "b"), (31, "a"),
        ])

    def test_the_bounds(self):
        row = [("hill", 0, (10 ** 60 - 1, 1)), ("hill", 10 ** 8, (-(10 ** 60) + 1, 7)), ("hill", 10 ** 9, (0, 1))]
        told = fills(row, 10 ** 6, 10 ** 8)
        self.assertEqual([fill[1] for fill in told], [place * 10 ** 6 for place in range(1, 100)])
        self.assertEqual(told[0], ("hill", 10 ** 6, as_tuple(
            fractions.Fraction(10 ** 60 - 1) * (1 - fractions.Fraction(8, 700))), 0, 10 ** 8))

    def test_two_hundred_readings(self):
        chance = random.Random(19)
        row = [("hill", 100 * place, (chance.randrange(10 ** 60), 1)) for place in range(200)]
        told = fills(row, 1, 100)
        self.assertEqual(len(told), 199 * 99)
        self.assertEqual(told, fills_by_hand(row, 1, 100))
        self.assertEqual(fills(put_in(row, told), 1, 100), [])

    def test_many_rows(self):
        chance = random.Random(20)
        came = 0
        for turn in range(400):
            row = some_row(chance, 20, chance.choice((30, 90)))
            step = chance.randrange(1, 12)
            most = chance.randrange(step, min(100 * step, 40) + 1)
            expected = fills_by_hand(row, step, most)
            self.assert_fills(row, step, most, expected)
            came += len(expected)
        self.assertGreater(came, 1000)

    def test_what_is_told_is_the_askers_own(self):
        row = self.gap(30)
        told = fills(row, 10, 60)
        kept = list(told)
        row.clear()
        self.assertEqual(told, kept)
        told.clear()
        self.assertEqual(fills(self.gap(30), 10, 60), kept)


if __name__ == "__main__":
    unittest.main()
