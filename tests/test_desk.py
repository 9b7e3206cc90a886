import random
import unittest

from some_desks import SOME_RULES, TOLD, answers_of, desk_of
from weather.desk import Desk

SIXTY = "9" * 60


class Told(unittest.TestCase):
    def assert_answers(self, desk, rows):
        """Each row with its answer, one behind the other; what is asked twice has the same answer."""
        for row, answer in rows:
            told = desk.say(row)
            self.assertEqual(told, answer, row)
            self.assertIs(type(told), str)

    def assert_asked(self, desk, rows):
        for turn in range(2):
            self.assert_answers(desk, rows)


class AtFirst(Told):
    def test_nothing_is_there(self):
        self.assert_asked(Desk(), [
            ("show", ""), ("marks", ""), ("stands hill", ""), ("fills hill", ""), ("value hill 0 00:00", "none"),
            ("day hill 0", "none"), ("week hill 0", "none"), ("parted ", "alike"), ("parted mark a: 0 < 1", "alike"),
            ("parted fill 10 60", "alike"),
        ])

    def test_two_desks_have_nothing_in_common(self):
        one, other = Desk(), Desk()
        for row in TOLD:
            one.say(row)
        self.assertEqual(answers_of(other), answers_of(Desk()))


class Readings(Told):
    def test_new_and_known(self):
        desk = Desk()
        self.assert_answers(desk, [
            ("reading hill 12 07:05 1 -35", "new"), ("value hill 12 07:05", "-35"),
            # Told twice, of a lesser turn, of a lesser number.
            ("reading hill 12 07:05 1 -35", "known"), ("reading hill 12 07:05 0 99", "known"),
            ("reading hill 12 07:05 1 -36", "known"), ("value hill 12 07:05", "-35"),
            # Of a greater number, of a greater turn, of that one's turn but a lesser number.
            ("reading hill 12 07:05 1 -34", "new"), ("value hill 12 07:05", "-34"),
            ("reading hill 12 07:05 2 -90", "new"), ("value hill 12 07:05", "-90"),
            ("reading hill 12 07:05 2 -91", "known"), ("value hill 12 07:05", "-90"),
            # Of another mast, of another time.
            ("reading sea 12 07:05 0 1", "new"), ("reading hill 12 07:06 0 2", "new"),
            ("value sea 12 07:05", "1"), ("value hill 12 07:06", "2"), ("value hill 12 07:07", "none"),
            ("value top 12 07:05", "none"),
        ])

    def test_the_bounds(self):
        self.assert_answers(Desk(), [
            ("reading mountain 694444 10:40 1000000000 " + SIXTY, "new"), ("value mountain 694444 10:40", SIXTY),
            ("reading a 0 00:00 0 -" + SIXTY, "new"), ("value a 0 00:00", "-" + SIXTY),
            ("reading b 0 00:00 0 0", "new"), ("value b 0 00:00", "0"),
        ])


class Values(Told):
    def test_units_and_checks(self):
        desk = Desk()
        self.assert_answers(desk, [
            ("reading hill 0 00:30 0 10", "new"), ("reading sea 0 00:30 0 10", "new"), ("value hill 0 00:30", "10"),
            ("unit hill 0 00:30 1/3 -1/2", "ok"), ("value hill 0 00:30", "17/6"), ("value sea 0 00:30", "10"),
            ("unit hill 0 00:31 5 5", "ok"), ("value hill 0 00:30", "17/6"),
            ("check hill 0 00:00 1/3", "ok"), ("value hill 0 00:30", "5/2"),
            ("check hill 0 01:00 -2/3", "ok"), ("value hill 0 00:30", "3"), ("value sea 0 00:30", "10"),
            ("check sea 0 00:30 -5", "ok"), ("value sea 0 00:30", "15"), ("value hill 0 00:30", "3"),
        ])

    def test_units_and_checks_of_other_times_and_masts(self):
        self.assert_answers(Desk(), [
            ("unit hill 0 00:10 2 0", "ok"), ("unit hill 0 00:00 3 0", "ok"), ("unit sea 0 00:10 4 0", "ok"),
            ("check hill 0 00:10 0", "ok"), ("check sea 0 00:10 1/2", "ok"),
            ("reading hill 0 00:09 0 10", "new"), ("reading hill 0 00:10 0 10", "new"),
            ("reading sea 0 00:09 0 10", "new"), ("reading sea 0 00:10 0 10", "new"),
            ("value hill 0 00:09", "30"), ("value hill 0 00:10", "20"), ("value sea 0 00:09", "19/2"),
            ("value sea 0 00:10", "79/2"),
        ])

    def test_the_bounds(self):
        self.assert_answers(Desk(), [
            ("unit hill 694444 10:40 -999999999/999998 999999999", "ok"),
            ("unit hill 0 00:00 1/999999 -999999999", "ok"),
            ("check hill 694444 10:40 -999999998/999999", "ok"), ("check hill 0 00:00 999999999", "ok"),
            ("reading hill 0 00:00 0 999999", "new"), ("value hill 0 00:00", "-1999999997"),
        ])

    def test_forty_units_and_forty_checks(self):
        desk = Desk()
        for place in range(40):
            minute = "0 00:" + str(place).zfill(2)
            self.assert_answers(desk, [("unit hill " + minute + " 2 1", "ok"), ("check hill " + minute + " 1/2", "ok")])
        self.assert_answers(desk, [("reading hill 0 00:39 0 7", "new"), ("value hill 0 00:39", "29/2")])


class Rules(Told):
    def test_rules_with_and_without_a_text(self):
        self.assert_answers(Desk(), [
            ("rules mark cold: here < 1", "ok"), ("show", "mark cold: here < 1"),
            ("rules ", "ok"), ("show", ""),
            ("rules fill 10 60", "ok"), ("show", "fill 10 60"),
            ("rules mark cold: here < 1", "ok"), ("show", "mark cold: here < 1"),
            ("rules \n\n", "ok"), ("show", ""),
        ])

    def test_over_several_rows(self):
        self.assert_answers(Desk(), [
            ("rules mark cold: here < 1\nmark hot: 30 < here\nfill 10 60", "ok"),
            ("show", "mark cold: here < 1\nmark hot: 30 < here\nfill 10 60"),
            ("rules \n  mark  leap :5<abs(here-back 1)\n\n", "ok"), ("show", "mark leap: 5 < abs(here - back 1)"),
            ("rules \nfill 10 60", "ok"), ("show", "fill 10 60"),
            ("rules   mark a: [here < 1]", "ok"), ("show", "mark a: here < 1"),
        ])

    def test_the_book_of_rules_is_this_one_from_then_on(self):
        desk = desk_of(TOLD)
        self.assertEqual(desk.say("show"), SOME_RULES)
        self.assertNotEqual(desk.say("marks"), "")
        self.assertNotEqual(desk.say("fills hill"), "")
        self.assert_answers(desk, [
            ("rules mark low: here < 0", "ok"), ("marks", "hill 8 12:00 low (hill 8 12:00)"), ("fills hill", ""),
            ("rules ", "ok"), ("marks", ""),
        ])

    def test_twelve_rules(self):
        text = "\n".join("mark " + name + ": here < 1" for name in "abcdefghijkl") + "\nfill 1 100"
        self.assert_answers(Desk(), [("rules " + text, "ok"), ("show", text)])


class Answers(Told):
    def test_marks(self):
        desk = desk_of(["reading hill 0 00:00 0 5", "reading hill 0 00:10 0 90", "reading sea 0 00:10 0 7"])
        self.assert_asked(desk, [("marks", "")])
        desk.say("rules mark none: 1 < 0")
        self.assert_asked(desk, [("marks", "")])
        desk.say("rules mark big: 50 < here")
        self.assert_asked(desk, [("marks", "hill 0 00:10 big (hill 0 00:10)")])
        desk.say("rules mark leap: 50 < here - back 1 + 0 * at sea\nmark all: 0 < 1")
        self.assert_asked(desk, [(
            "marks",
            "hill 0 00:10 leap (hill 0 00:00) (hill 0 00:10) (sea 0 00:10); hill 0 00:00 all (hill 0 00:00); "
            "sea 0 00:10 all (sea 0 00:10)",
        )])

    def test_marks_of_put_right_values(self):
        desk = desk_of(["reading hill 0 00:00 0 5", "reading hill 0 00:10 0 5", "rules mark big: 4 < here"])
        self.assert_asked(desk, [("marks", "hill 0 00:00 big (hill 0 00:00); hill 0 00:10 big (hill 0 00:10)")])
        desk.say("unit hill 0 00:10 1/2 0")
        self.assert_asked(desk, [("marks", "hill 0 00:00 big (hill 0 00:00)")])
        desk.say("check hill 0 00:00 1")
        self.assert_asked(desk, [("marks", "")])

    def test_stands(self):
        desk = desk_of(["reading hill 0 00:00 0 5", "reading hill 0 00:10 0 90", "reading hill 12 07:05 0 -3"])
        desk.say("reading sea 0 00:10 0 7")
        self.assert_asked(desk, [
            ("stands hill", "0 00:00 5; 0 00:10 90; 12 07:05 -3"), ("stands sea", "0 00:10 7"), ("stands top", ""),
        ])
        desk.say("unit hill 0 00:10 1/7 0")
        desk.say("rules mark big: 12 < here")
        self.assert_asked(desk, [("stands hill", "0 00:00 5; 12 07:05 -3/7"), ("stands sea", "0 00:10 7")])
        desk.say("rules mark all: 0 < 1")
        self.assert_asked(desk, [("stands hill", ""), ("stands sea", "")])

    def test_fills(self):
        desk = desk_of(["reading hill 0 00:00 0 5", "reading hill 0 00:10 0 90", "reading hill 0 00:40 0 7"])
        desk.say("reading sea 0 00:00 0 7")
        desk.say("reading sea 0 00:20 0 -8")
        self.assert_asked(desk, [("fills hill", ""), ("fills sea", ""), ("fills top", "")])
        desk.say("rules mark big: 50 < here\nfill 10 60")
        self.assert_asked(desk, [
            ("fills hill", "0 00:10 11/2; 0 00:20 6; 0 00:30 13/2"), ("fills sea", "0 00:10 -1/2"), ("fills top", ""),
        ])
        desk.say("rules fill 20 40")
        self.assert_asked(desk, [("fills hill", "0 00:30 104/3"), ("fills sea", "")])

    def test_day(self):
        desk = desk_of(["reading hill 0 00:00 0 5", "reading hill 0 23:59 0 -8", "reading hill 1 00:00 0 90"])
        self.assert_asked(desk, [
            ("day hill 0", "2 -3 -8 5 0 0"), ("day hill 1", "1 90 90 90 0 0"), ("day hill 2", "none"),
            ("day sea 0", "none"), ("day hill 694444", "none"), ("day hill " + SIXTY, "none"),
        ])
        desk.say("unit hill 0 00:00 1/3 0")
        desk.say("rules mark big: 25 < here\nfill 720 2000")
        self.assert_asked(desk, [
            ("day hill 0", "2 -1 -8/3 5/3 0 1"), ("day hill 1", "0 0 - - 1 0"),
        ])

    def test_a_day_with_fills_alone(self):
        desk = desk_of(["reading hill 0 00:00 0 5", "reading hill 2 00:00 0 7", "rules fill 700 3000"])
        self.assert_asked(desk, [
            ("day hill 0", "1 5 5 5 0 2"), ("day hill 1", "0 0 - - 0 2"), ("day hill 2", "1 7 7 7 0 0"),
        ])

    def test_week(self):
        desk = desk_of(["reading hill 6 23:59 0 5", "reading hill 7 00:00 0 -8", "reading hill 13 00:00 0 90"])
        self.assert_asked(desk, [
            ("week hill 0", "1 5 5 5 0 0"), ("week hill 1", "2 82 -8 90 0 0"), ("week hill 2", "none"),
            ("week sea 1", "none"), ("week hill 7", "none"), ("week hill " + SIXTY, "none"),
        ])
        desk.say("rules mark big: 50 < here\nmark low: here < 0")
        self.assert_asked(desk, [("week hill 0", "1 5 5 5 0 0"), ("week hill 1", "0 0 - - 2 0")])
        desk.say("check hill 0 00:00 -9/2")
        desk.say("rules mark big: 50 < here\nfill 1 100")
        self.assert_asked(desk, [("week hill 0", "1 19/2 19/2 19/2 0 0"), ("week hill 1", "1 -7/2 -7/2 -7/2 1 0")])

    def test_parted(self):
        desk = desk_of(["reading hill 0 00:00 0 5", "reading sea 12 07:05 0 90"])
        self.assert_asked(desk, [
            ("parted ", "alike"), ("parted fill 10 60", "alike"), ("parted mark big: 50 < here", "sea 12 07:05"),
            ("parted mark all: 0 < 1", "hill 0 00:00"), ("parted mark none: 1 < 0\n\nfill 1 1\n", "alike"),
        ])
        desk.say("rules mark big: 50 < here\nfill 10 60")
        self.assert_asked(desk, [
            ("parted ", "sea 12 07:05"), ("parted fill 10 60", "sea 12 07:05"), ("parted mark x: here = 90", "alike"),
            ("parted mark all: 0 < 1", "hill 0 00:00"),
            ("parted \nmark low: here < 6\nmark big: 50 < here", "hill 0 00:00"),
            ("show", "mark big: 50 < here\nfill 10 60"),
        ])


class Long(Told):
    def test_two_hundred_readings_and_long_sums(self):
        chance = random.Random(25)
        told = []
        for place in range(200):
            hour, minute = divmod(7 * place, 60)
            time = "3 " + str(hour).zfill(2) + ":" + str(minute).zfill(2)
            told.append("reading hill " + time + " 0 " + str(chance.randrange(-10 ** 60 + 1, 10 ** 60)))
            if place % 5 == 0:
                told.append("unit hill " + time + " 1/" + str(999999 - place) + " 1/" + str(999998 - place))
                told.append("check hill " + time + " 1/" + str(999997 - place))
        desk = desk_of(told)
        words = desk.say("day hill 3").split(" ")
        self.assertEqual((words[0], words[4:]), ("200", ["0", "0"]))
        self.assertEqual(desk.say("week hill 0").split(" "), words)
        self.assertEqual(len(desk.say("stands hill").split("; ")), 200)


if __name__ == "__main__":
    unittest.main()
