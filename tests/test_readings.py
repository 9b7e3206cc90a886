import itertools
import unittest

from weather.errors import NoText
from weather.readings import is_word, read_reading, show_reading

KEY_WORDS = "mark fill here back on at ago until abs and or not".split(" ")
LAST = 10 ** 9
SIXTY = 10 ** 60 - 1
TEXTS = (
    (("hill", 12 * 1440 + 7 * 60 + 5, 0, -35), "hill 12 07:05 0 -35"),
    (("a", 0, 0, 0), "a 0 00:00 0 0"),
    (("z", LAST, LAST, SIXTY), "z 694444 10:40 1000000000 " + "9" * 60),
    (("mountain", LAST, LAST, -SIXTY), "mountain 694444 10:40 1000000000 -" + "9" * 60),
    (("marks", 1439, 1, 1), "marks 0 23:59 1 1"),
    (("no", 1440, 10, -1), "no 1 00:00 10 -1"),
    (("sea", 61, 999999999, 10 ** 59), "sea 0 01:01 999999999 1" + "0" * 59),
)


class Words(unittest.TestCase):
    def assert_words(self, things, expected):
        for thing in things:
            with self.subTest(thing=repr(thing)):
                self.assertIs(is_word(thing), expected)
                self.assertIs(is_word(thing), expected)

    def test_one_to_eight_letters(self):
        self.assert_words("abcdefghijklmnopqrstuvwxyz", True)
        self.assert_words(("hill", "ab", "abcdefgh", "zzzzzzzz", "stuvwxyz"), True)

    def test_no_letter_and_nine(self):
        self.assert_words(("", "abcdefghi", "zzzzzzzzz", "a" * 5000), False)

    def test_key_words(self):
        self.assert_words(KEY_WORDS, False)

    def test_near_key_words(self):
        self.assert_words([word + "s" for word in KEY_WORDS], True)
        self.assert_words(("a", "o", "no", "un", "mar", "num", "times", "unit", "check", "none"), True)

    def test_other_signs(self):
        self.assert_words(("Hill", "hilL", "HILL", "A", "Mark", "hill1", "1", "9hill", "0"), False)
        self.assert_words((" ", " hill", "hill ", "hi ll", "hill\n", "\thill"), False)
        self.assert_words(("hi-ll", "hi_ll", "hill.", "-", "/"), False)
        self.assert_words(("\u00e4", "h\u00fcgel", "\u00df", "\u0430", "\uff41", "\u00aa"), False)

    def test_other_kinds(self):
        things = (0, 1, -5, 10 ** 70, None, True, False, [], ["hill"], ["a", "b"], (), ("hill",), ("a", "b"), {})
        self.assert_words(things, False)
        self.assert_words(({"a": 1}, {"a"}, 1.5, b"hill", b"", object(), str, len, range(3)), False)

    def test_a_list_is_left_as_it_was(self):
        handed = ["hill", ["a"]]
        self.assertIs(is_word(handed), False)
        self.assertEqual(handed, ["hill", ["a"]])


class Texts(unittest.TestCase):
    def assert_reading(self, reading, expected):
        self.assertEqual(reading, expected)
        self.assertIs(type(reading), tuple)
        self.assertEqual([type(part) for part in reading], [str, int, int, int])

    def test_written(self):
        for reading, text in TEXTS:
            self.assertEqual(show_reading(reading), text)
            self.assertEqual(show_reading(reading), text)

    def test_read(self):
        for reading, text in TEXTS:
            self.assert_reading(read_reading(text), reading)
            self.assert_reading(read_reading(text), reading)

    def test_what_is_written_is_read_to_the_same(self):
        masts = ("a", "hill", "mountain")
        clocks = (0, 1, 59, 60, 1439, 1440, LAST - 1, LAST)
        turns = (0, 1, 9, 10, LAST - 1, LAST)
        numbers = [sign * number for sign in (1, -1) for number in (0, 1, 9, 10, 35, 10 ** 59 - 1, 10 ** 59, SIXTY)]
        for reading in itertools.product(masts, clocks, turns, numbers):
            self.assert_reading(read_reading(show_reading(reading)), reading)


class Refused(unittest.TestCase):
    def assert_refused(self, texts):
        for text in texts:
            with self.subTest(text=text):
                with self.assertRaises(NoText) as caught:
                    read_reading(text)
                self.assertEqual(caught.exception.row, 1)

    def test_numbers(self):
        self.assert_refused("hill 12 07:05 0 " + number for number in (
            "-0", "+0", "+35", "--35", "-", "00", "035", "-035", "9" * 61, "-" + "9" * 61, "1" + "0" * 60, "9" * 5000,
            "35/2", "-35/2", "35/1", "3.5", "3,5", "1e3", "1_0", "x", "hill", "\u0663", "35-", "35\n", "\t35",
        ))

    def test_turns(self):
        self.assert_refused("hill 12 07:05 " + turn + " -35" for turn in (
            "-1", "-0", "+1", "00", "01", "1000000001", "1000000000000", "9" * 61, "9" * 5000, "1/2", "x", "1_0",
            "\u0661", "1.0", "0\n", "\t0",
        ))

    def test_masts(self):
        for mast in KEY_WORDS:
            self.assert_refused([mast + " 12 07:05 0 -35"])
        self.assert_refused(mast + " 12 07:05 0 -35" for mast in (
            "mountains", "abcdefghi", "Hill", "hill1", "1", "hi-ll", "hill:", "\u00e4", "\nhill", "hill\t",
        ))

    def test_times(self):
        self.assert_refused("hill " + time + " 0 -35" for time in (
            "12 24:00", "12 07:60", "12 7:05", "12 07:5", "12 0705", "012 07:05", "00 07:05", "-1 07:05", "x 07:05",
            "694444 10:41", "694445 00:00", "1000000 00:00", "12 07:05:00", "12 07.05", "12 ab:cd", "9" * 61 + " 00:00",
        ))

    def test_a_blank_too_many(self):
        text = "hill 12 07:05 0 -35"
        self.assert_refused((" " + text, text + " ", text.replace(" ", "  "), "hill 12 07:05 0 - 35", " ", "    "))
        for place, sign in enumerate(text):
            self.assert_refused([text[:place] + " " + text[place:]])

    def test_a_blank_too_few(self):
        text = "hill 12 07:05 0 -35"
        for place, sign in enumerate(text):
            if sign == " ":
                for other in ("", "\t", "\n", "_", "\u00a0"):
                    self.assert_refused([text[:place] + other + text[place + 1:]])

    def test_a_word_too_many_or_too_few(self):
        words = "hill 12 07:05 0 -35".split(" ")
        for place in range(len(words)):
            self.assert_refused([" ".join(words[:place] + words[place + 1:])])
            self.assert_refused([" ".join(words[:place] + [words[place]] + words[place:])])
        self.assert_refused(("hill 12 07:05 0 -35 0", "hill 12 07:05 0 -35 x", "reading hill 12 07:05 0 -35"))

    def test_an_empty_text(self):
        self.assert_refused(("", "\n", "hill", "12", "hill 12 07:05"))


if __name__ == "__main__":
    unittest.main()
