import unittest

from some_desks import TOLD, answers_of, desk_of
from weather.desk import Desk
from weather.errors import NoFraction, NoRow, NoText, TooMany, Twice, WeatherError

ROWS = (
    "reading hill 0 00:20 0 7", "unit hill 0 00:20 1/2 1", "check hill 0 00:20 1/2", "show", "value hill 0 00:20",
    "marks", "stands hill", "fills hill", "day hill 0", "week hill 0",
)
KEY_WORDS = "mark fill here back on at ago until abs and or not".split(" ")
SIXTY_ONE = "1" + "0" * 60


class Refused(unittest.TestCase):
    def setUp(self):
        self.desks = [Desk(), desk_of(TOLD)]
        self.answers = [answers_of(desk) for desk in self.desks]

    def assert_refused(self, said, error, **fields):
        """By a new desk and by one that was told much, and both answer behind it as ahead."""
        for desk, answers in zip(self.desks, self.answers):
            self.assert_refused_by(desk, answers, said, error, **fields)

    def assert_refused_by(self, desk, answers, said, error, **fields):
        with self.subTest(said=said):
            for turn in range(2):
                with self.assertRaises(WeatherError) as caught:
                    desk.say(said)
                self.assertIs(type(caught.exception), error)
                self.assertEqual(vars(caught.exception), fields)
            self.assertEqual(answers_of(desk), answers)

    def assert_no_row(self, *rows):
        for row in rows:
            self.assert_refused(row, NoRow)


class Forms(Refused):
    def test_the_rows_themselves_are_none(self):
        for row in ROWS + ("rules ", "parted "):
            desk_of(TOLD).say(row)

    def test_what_is_no_str(self):
        class Odd:
            pass

        for thing in (
            None, True, False, 0, 7, -1, 1.5, b"show", bytearray(b"show"), ["show"], ("show",), {"show": 1}, {"show"},
            object(), Odd, Odd(), str,
        ):
            self.assert_no_row(thing)

    def test_the_empty_text_and_blanks_alone(self):
        self.assert_no_row("", " ", "  ", "\n", "\t")

    def test_another_first_word(self):
        self.assert_no_row(
            "hill", "readings hill 0 00:20 0 7", "Reading hill 0 00:20 0 7", "read hill 0 00:20 0 7", "units", "rule ",
            "mark", "fill 10 60", "mark cold: here < 1", "shows", "SHOW", "part ", "days hill 0", "weeks hill 0",
            "none", "hill 0 00:20 0 7", "fills: hill", "stand hill", "values hill 0 00:20", "checks hill 0 00:20 1/2",
            "say show", "'show'", "show;marks", "__init__", "keep_rules x",
        )

    def test_a_word_too_few(self):
        for row in ROWS:
            words = row.split(" ")
            for place in range(1, len(words)):
                self.assert_no_row(" ".join(words[:place] + words[place + 1:]))
                self.assert_no_row(" ".join(words[:place]))

    def test_a_word_too_many(self):
        for row in ROWS:
            words = row.split(" ")
            for more in ("0", "hill", "1/2", "show", "-"):
                for place in range(1, len(words) + 1):
                    self.assert_no_row(" ".join(words[:place] + [more] + words[place:]))

    def test_a_blank_too_many(self):
        for row in ROWS:
            self.assert_no_row(" " + row, row + " ")
            for place in range(len(row)):
                if row[place] == " ":
                    self.assert_no_row(row[:place] + " " + row[place:])
        self.assert_no_row(" rules ", " rules mark a: here < 1", " parted ", "  parted fill 1 1")

    def test_another_sign_in_the_place_of_a_blank(self):
        for row in ROWS:
            for sign in ("\t", "\n", "", ",", "_", "\u00a0"):
                if " " in row:
                    self.assert_no_row(row.replace(" ", sign), row.replace(" ", sign, 1))
                if sign:
                    self.assert_no_row(row + sign, sign + row)

    def test_rules_and_parted_without_the_blank(self):
        self.assert_no_row(
            "rules", "parted", "rules\n", "rules\nmark a: here < 1", "rules\tmark a: here < 1", "parted\n", "rules:",
            "rulesmark a: here < 1", "parted\nfill 1 1", "Rules ", "Parted ",
        )

    def test_a_mast_that_is_none(self):
        others = ["Hill", "mountains", "hill1", "1", "", "h-l", "h\u00fcgel", "-", "hill,", "hi\nll"]
        for row in ROWS:
            if " hill" in row:
                for mast in others + KEY_WORDS:
                    self.assert_no_row(row.replace("hill", mast))

    def test_a_time_that_is_none_or_beyond_its_bounds(self):
        for row in ROWS:
            if "00:20" in row:
                for time in (
                    "0 24:00", "0 00:60", "0 7:05", "0 07:5", "00 00:20", "-1 00:20", "+0 00:20", "01 00:20", "x 00:20",
                    "0 00.20", "0 00:20:00", "694444 10:41", "694445 00:00", "0 -1:20", "0 00:-1", "1/2 00:20",
                    "0 0020", "99999999999 00:20", "00:20 0", "0 \u0660\u0660:20",
                ):
                    self.assert_no_row(row.replace("0 00:20", time))

    def test_a_turn_that_is_none_or_beyond_its_bounds(self):
        for turn in ("-1", "-0", "+1", "01", "00", "1/2", "x", "1.0", "1000000001", "9" * 70, "\u0661", "1_0"):
            self.assert_no_row("reading hill 0 00:20 " + turn + " 7")

    def test_a_number_that_is_none_or_beyond_its_bounds(self):
        for number in (
            "-0", "+1", "01", "00", "-01", "1/2", "4/2", "x", "--1", "-", "1.0", SIXTY_ONE, "-" + SIXTY_ONE, "\u0661",
            "1_0", "9" * 5000,
        ):
            self.assert_no_row("reading hill 0 00:20 0 " + number)

    def test_a_fraction_that_is_none_or_beyond_its_bounds(self):
        for one in (
            "2/4", "1/1", "-0", "0/1", "0/5", "3/0", "1/-2", "-1/-2", "+1", "01", "1/02", "x", "1/", "/2", "1/2/3", "-",
            "1.5", "--1", "1000000000", "-1000000000", "1000000001/2", "-1000000001/2", "1/1000000", "-1/1000000",
            "9" * 60, "1/" + "9" * 60, SIXTY_ONE, "9" * 5000, "\u0661",
        ):
            self.assert_no_row(
                "unit hill 0 00:20 " + one + " 1", "unit hill 0 00:20 1 " + one, "check hill 0 00:20 " + one,
            )

    def test_a_day_or_week_that_is_none_or_beyond_its_bounds(self):
        for number in (
            "-1", "-0", "+1", "01", "00", "1/2", "x", "-", "1.0", SIXTY_ONE, "9" * 5000, "\u0661", "0 00:20",
        ):
            self.assert_no_row("day hill " + number, "week hill " + number)


class Due(Refused):
    def test_a_unit_told_twice(self):
        desk = desk_of(TOLD)
        answers = answers_of(desk)
        for row in ("unit sea 0 00:00 1/2 1", "unit sea 0 00:00 2 1", "unit sea 1 00:00 1/2 1", "unit sea 0 00:00 0 1"):
            self.assert_refused_by(desk, answers, row, Twice, mast="sea")
        self.assertEqual(desk.say("unit sea 0 00:01 1/2 1"), "ok")
        self.assertEqual(desk.say("unit hill 0 00:00 1/2 1"), "ok")
        self.assert_refused_by(desk, answers_of(desk), "unit hill 0 00:00 1/2 1", Twice, mast="hill")

    def test_a_check_told_twice(self):
        desk = desk_of(TOLD)
        answers = answers_of(desk)
        for row in ("check hill 0 00:00 1/2", "check hill 0 00:00 0", "check hill 0 00:40 1"):
            self.assert_refused_by(desk, answers, row, Twice, mast="hill")
        self.assertEqual(desk.say("check hill 0 00:01 1/2"), "ok")
        self.assertEqual(desk.say("check sea 0 00:00 1/2"), "ok")
        self.assert_refused_by(desk, answers_of(desk), "check sea 0 00:00 1/2", Twice, mast="sea")

    def test_a_unit_and_a_check_are_not_each_others_second(self):
        desk = Desk()
        for row in ("unit hill 0 00:00 2 1", "check hill 0 00:00 2", "reading hill 0 00:00 0 2"):
            self.assertIn(desk.say(row), ("ok", "new"))

    def test_a_factor_of_nought(self):
        for row in ("unit hill 0 00:20 0 0", "unit hill 0 00:20 0 1/2", "unit top 694444 10:40 0 -1"):
            self.assert_refused(row, NoFraction)

    def test_a_shift_and_an_off_of_nought_are_no_refusal(self):
        desk = Desk()
        self.assertEqual([desk.say("unit hill 0 00:20 1 0"), desk.say("check hill 0 00:20 0")], ["ok", "ok"])

    def test_a_forty_first_unit(self):
        desk = desk_of(["reading hill 0 00:50 0 7"])
        for place in range(40):
            mast = ("hill", "sea")[place % 2]
            self.assertEqual(desk.say("unit " + mast + " 0 00:" + str(place + 10) + " 2 1"), "ok")
        answers = answers_of(desk)
        for row in ("unit hill 0 00:50 3 1", "unit top 0 00:00 3 1"):
            self.assert_refused_by(desk, answers, row, TooMany, most=40)
        self.assert_refused_by(desk, answers, "unit hill 0 00:10 3 1", Twice, mast="hill")
        self.assert_refused_by(desk, answers, "unit hill 0 00:10 0 1", Twice, mast="hill")
        self.assert_refused_by(desk, answers, "unit hill 0 00:50 0 1", NoFraction)
        self.assert_refused_by(desk, answers, "unit hill 0 00:50 3 x", NoRow)
        self.assertEqual(desk.say("check hill 0 00:50 1"), "ok")

    def test_a_forty_first_check(self):
        desk = desk_of(["reading hill 0 00:50 0 7"])
        for place in range(40):
            mast = ("hill", "sea")[place % 2]
            self.assertEqual(desk.say("check " + mast + " 0 00:" + str(place + 10) + " 2"), "ok")
        answers = answers_of(desk)
        for row in ("check hill 0 00:50 3", "check top 0 00:00 0"):
            self.assert_refused_by(desk, answers, row, TooMany, most=40)
        self.assert_refused_by(desk, answers, "check hill 0 00:10 3", Twice, mast="hill")
        self.assert_refused_by(desk, answers, "check hill 0 00:50 2/4", NoRow)
        self.assertEqual(desk.say("unit hill 0 00:50 3 1"), "ok")

    def test_refused_units_and_checks_do_not_count(self):
        desk = Desk()
        for place in range(40):
            for row in ("unit hill 0 00:59 0 1", "check hill 0 00:59 2/4"):
                self.assertRaises(WeatherError, desk.say, row)
            self.assertEqual(desk.say("unit hill 0 00:" + str(place + 10) + " 1 1"), "ok")
            self.assertEqual(desk.say("check hill 0 00:" + str(place + 10) + " 1"), "ok")

    def test_a_two_hundred_and_first_reading_kept(self):
        desk = Desk()
        for place in range(200):
            row = "reading " + ("hill", "sea")[place % 2] + " " + str(place // 2) + " 00:00 1 5"
            self.assertEqual([desk.say(row), desk.say(row)], ["new", "known"])
        answers = answers_of(desk)
        for row in ("reading hill 100 00:00 1 5", "reading top 0 00:00 1 5", "reading hill 0 00:01 0 0"):
            self.assert_refused_by(desk, answers, row, TooMany, most=200)
        self.assert_refused_by(desk, answers, "reading hill 100 00:00 1 x", NoRow)
        # What is known, or takes the place of a kept one, is none.
        self.assertEqual(desk.say("reading hill 0 00:00 1 5"), "known")
        self.assertEqual(desk.say("reading hill 0 00:00 0 9"), "known")
        self.assertEqual(desk.say("reading hill 0 00:00 1 6"), "new")
        self.assertEqual(desk.say("reading sea 99 00:00 2 3"), "new")
        self.assertEqual([desk.say("value hill 0 00:00"), desk.say("value sea 99 00:00")], ["6", "3"])
        self.assert_refused_by(desk, answers_of(desk), "reading hill 100 00:00 1 5", TooMany, most=200)

    def test_a_text_of_rules_that_is_none(self):
        for text, row in (
            ("x", 1), ("mark a", 1), ("mark a: here", 1), ("\n\nfill 0 1", 3),
            ("mark a: here < 1\nmark a: here = 1", 2), ("fill 10 60\nmark a: here < 1", 2), ("mark a: 2/4 < here", 1),
            ("mark a: here < 1 ;", 1), ("fill 1 101", 1),
            ("\n".join("mark " + name + ": here < 1" for name in "abcdefghijklm"), 13), ("-", 1), ("\t", 1),
            (" mark a: here < 1\n\n" + "x\nfill 10 60", 3), ("mark here: here < 1", 1), ("rules ", 1),
        ):
            self.assert_refused("rules " + text, NoText, row=row)
            self.assert_refused("parted " + text, NoText, row=row)


if __name__ == "__main__":
    unittest.main()
