import unittest

from weather.errors import NoText
from weather.figures import is_number, only_figures, read_whole


class Figures(unittest.TestCase):
    def test_only_figures(self):
        for text in ("0", "9", "0123456789", "007"):
            self.assertIs(only_figures(text), True, text)

    def test_other_signs(self):
        for text in ("", " ", "1 ", "+1", "-1", "1_0", "1.0", "x", "1\n", "\u00b2", "\u0661", "\uff11"):
            self.assertIs(only_figures(text), False, repr(text))


class Numbers(unittest.TestCase):
    def test_taken(self):
        for text, most in (("0", 1), ("7", 1), ("10", 2), ("999", 3), ("9", 60)):
            self.assertIs(is_number(text, most), True, text)

    def test_a_figure_too_many(self):
        self.assertIs(is_number("9" * 60, 60), True)
        self.assertIs(is_number("9" * 61, 60), False)
        self.assertIs(is_number("9" * 5000, 60), False)

    def test_none(self):
        for text in ("", "00", "01", "-0", "-1", "+1", " 1", "1 ", "1_0", "\u0661"):
            self.assertIs(is_number(text, 60), False, repr(text))


class Whole(unittest.TestCase):
    def test_read_within_its_bounds(self):
        for text, least, most, number in (("0", 0, 9, 0), ("9", 0, 9, 9), ("1", 1, 1, 1), ("1000", 7, 1000, 1000)):
            self.assertEqual(read_whole(text, least, most), number)
            self.assertIs(type(read_whole(text, least, most)), int)

    def test_refused(self):
        for text, least, most in (
            ("0", 1, 9), ("10", 1, 9), ("6", 7, 1000), ("1001", 7, 1000), ("9" * 5000, 0, 9), ("01", 0, 99),
            ("-1", 0, 9), ("+1", 0, 99), ("", 0, 9), (" 1", 0, 99), ("1/2", 0, 999), ("x", 0, 9),
        ):
            with self.subTest(text=text):
                with self.assertRaises(NoText) as caught:
                    read_whole(text, least, most)
                self.assertEqual(caught.exception.row, 1)


if __name__ == "__main__":
    unittest.main()
