import unittest

from weather.errors import NoText
from weather.times import day_of, read_time, show_time, week_of

LAST = 10 ** 9
TEXTS = (
    (0, "0 00:00"),
    (1, "0 00:01"),
    (9, "0 00:09"),
    (10, "0 00:10"),
    (59, "0 00:59"),
    (60, "0 01:00"),
    (599, "0 09:59"),
    (600, "0 10:00"),
    (1380, "0 23:00"),
    (1439, "0 23:59"),
    (1440, "1 00:00"),
    (2879, "1 23:59"),
    (14399, "9 23:59"),
    (14400, "10 00:00"),
    (12 * 1440 + 7 * 60 + 5, "12 07:05"),
    (694443 * 1440 + 1439, "694443 23:59"),
    (694444 * 1440, "694444 00:00"),
    (LAST - 1, "694444 10:39"),
    (LAST, "694444 10:40"),
)


class Texts(unittest.TestCase):
    def test_written(self):
        for time, text in TEXTS:
            self.assertEqual(show_time(time), text)
            self.assertEqual(show_time(time), text)

    def test_read(self):
        for time, text in TEXTS:
            self.assertEqual(read_time(text), time)
            self.assertEqual(read_time(text), time)
            self.assertIs(type(read_time(text)), int)

    def test_each_minute_of_two_days_is_read_back(self):
        for first in (0, 99 * 1440, 694442 * 1440):
            for time in range(first, first + 2880):
                self.assertEqual(read_time(show_time(time)), time)

    def test_no_two_times_have_one_text(self):
        self.assertEqual(len({show_time(time) for time in range(14400)}), 14400)


class Refused(unittest.TestCase):
    def assert_refused(self, texts):
        for text in texts:
            with self.subTest(text=text):
                with self.assertRaises(NoText) as caught:
                    read_time(text)
                self.assertEqual(caught.exception.row, 1)

    def test_hours_and_minutes_that_are_none(self):
        self.assert_refused(("3 24:00", "0 24:00", "3 25:00", "3 99:59", "3 07:60", "3 07:99", "3 23:60", "3 24:60"))

    def test_other_than_two_figures(self):
        self.assert_refused(("3 7:05", "3 07:5", "3 7:5", "3 007:05", "3 07:005", "3 :05", "3 07:", "3 :", "3 0705"))

    def test_beyond_the_last(self):
        self.assert_refused(("694444 10:41", "694444 11:00", "694444 23:59", "694445 00:00", "999999 00:00"))
        self.assert_refused(("1000000 00:00", "6944440 00:00", "9" * 60 + " 00:00", "9" * 5000 + " 00:00"))

    def test_a_nought_ahead_of_the_day(self):
        self.assert_refused(("00 07:05", "01 07:05", "012 07:05", "0694444 10:40", "000000 00:00"))

    def test_a_blank_too_many(self):
        self.assert_refused((" 3 07:05", "3  07:05", "3 07:05 ", "3 07 :05", "3 07: 05", "3 0 7:05", "1 2 07:05"))
        self.assert_refused(("3 07:05\n", "\n3 07:05", "3 07:05\t", "3 7: 05", "3  7:05", "3 07: 5"))

    def test_a_blank_too_few(self):
        self.assert_refused(("307:05", "07:05", "3\t07:05", "3\n07:05", "3_07:05", "3-07:05", "3\u00a007:05"))

    def test_parts_missing_or_too_many(self):
        self.assert_refused(("", " ", ":", "3", "3 ", " 07:05", "3 07", "3 07:05:00", "3 07:05 1", "3 4 07:05"))

    def test_another_sign_for_the_colon(self):
        self.assert_refused(("3 07.05", "3 07 05", "3 07/05", "3 07005", "3 07;05"))

    def test_a_sign_ahead(self):
        self.assert_refused(("-1 07:05", "+3 07:05", "-0 00:00", "3 -7:05", "3 +7:05", "3 07:-5", "3 07:+5"))

    def test_signs_that_are_no_figures(self):
        self.assert_refused(("x 07:05", "3 ab:cd", "3 0x:05", "3 07:0x", "1_0 07:05", "3 0_:05", "1.5 07:05"))
        self.assert_refused(("\u0663 07:05", "3 0\u0667:05", "3 07:0\u0665", "\u00b2 07:05", "3 07\uff1a05"))


class DaysAndWeeks(unittest.TestCase):
    def test_both_sides_of_a_days_end(self):
        for time, day in ((0, 0), (1439, 0), (1440, 1), (2879, 1), (2880, 2), (10079, 6), (10080, 7), (LAST, 694444)):
            self.assertEqual(day_of(time), day)
            self.assertEqual(day_of(time), day)
            self.assertIs(type(day_of(time)), int)

    def test_both_sides_of_a_weeks_end(self):
        for day, week in ((0, 0), (6, 0), (7, 1), (13, 1), (14, 2), (694441, 99205), (694442, 99206), (694444, 99206)):
            self.assertEqual(week_of(day), week)
            self.assertEqual(week_of(day), week)
            self.assertIs(type(week_of(day)), int)

    def test_the_day_is_the_one_that_is_written(self):
        for time, text in TEXTS:
            self.assertEqual(str(day_of(time)), text.split(" ")[0])


if __name__ == "__main__":
    unittest.main()
