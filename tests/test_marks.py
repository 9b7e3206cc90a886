import copy
import fractions
import random
import unittest

from some_rows import MASTS, as_tuple, judged_by_hand, some_row, some_rules
from weather.marks import marks, standing
from weather.reading import read_rules
from weather.rules import holds

ROW = [
    ("hill", 0, (1, 1)), ("sea", 0, (5, 1)), ("hill", 10, (4, 1)), ("hill", 20, (9, 1)), ("sea", 20, (2, 1)),
    ("hill", 50, (2, 1)), ("top", 50, (2, 1)),
]
HILL = [reading for reading in ROW if reading[0] == "hill"]


def keys_of(row):
    return [reading[:2] for reading in row]


class Judged(unittest.TestCase):
    def assert_judged(self, row, text, expected):
        """The marks of the rules that the text tells; all else stands."""
        rules = read_rules(text)[0]
        ahead = copy.deepcopy((row, rules))
        marked = [mark[:2] for mark in expected]
        for turn in range(2):
            told = marks(row, rules)
            self.assertEqual(told, expected)
            self.assert_kinds(told)
            stands = standing(row, rules)
            self.assertEqual(stands, [reading for reading in row if reading[:2] not in marked])
            self.assertIs(type(stands), list)
            self.assertEqual([type(reading) for reading in stands], [tuple] * len(stands))
        self.assertEqual((row, rules), ahead)

    def assert_kinds(self, told):
        self.assertIs(type(told), list)
        for mark in told:
            self.assertEqual([type(mark), len(mark), type(mark[3])], [tuple, 4, list])
            self.assertEqual([type(key) for key in mark[3]], [tuple] * len(mark[3]))

    def assert_marked(self, row, text, keys):
        """Which readings are marked by one rule, whatever is seen of it."""
        rules = read_rules(text)[0]
        self.assertEqual([mark[:2] for mark in marks(row, rules)], keys)
        self.assertEqual(keys_of(standing(row, rules)), [key for key in keys_of(row) if key not in keys])


class OneRule(Judged):
    def test_a_row_without_readings(self):
        self.assert_judged([], "", [])
        self.assert_judged([], "mark all: 0 < 1\nmark last: at sea < back 1", [])

    def test_no_rules(self):
        self.assert_judged(ROW, "", [])

    def test_a_rule_that_marks_all(self):
        expected = [(mast, time, "all", [(mast, time)]) for mast, time, value in ROW]
        self.assert_judged(ROW, "mark all: 0 < 1", expected)
        self.assert_judged(ROW, "mark all: here = here", expected)

    def test_a_rule_that_marks_none(self):
        self.assert_judged(ROW, "mark none: 1 < 0", [])
        self.assert_judged(ROW, "mark none: here < here", [])
        self.assert_judged(ROW, "mark none: here = here + 1", [])

    def test_here(self):
        self.assert_judged(ROW, "mark big: 4 < here", [
            ("sea", 0, "big", [("sea", 0)]), ("hill", 20, "big", [("hill", 20)]),
        ])

    def test_values_that_are_fractions(self):
        row = [("hill", 0, (-7, 2)), ("hill", 5, (7, 2)), ("hill", 9, (10, 3))]
        self.assert_judged(row, "mark half: abs(here) = 7/2", [
            ("hill", 0, "half", [("hill", 0)]), ("hill", 5, "half", [("hill", 5)]),
        ])
        self.assert_judged(row, "mark near: abs(here - back 1) < 1/5", [
            ("hill", 9, "near", [("hill", 5), ("hill", 9)]),
        ])

    def test_back(self):
        self.assert_judged(ROW, "mark up: back 1 < here", [
            ("hill", 10, "up", [("hill", 0), ("hill", 10)]), ("hill", 20, "up", [("hill", 10), ("hill", 20)]),
        ])
        self.assert_judged(ROW, "mark up: back 2 < here", [
            ("hill", 20, "up", [("hill", 0), ("hill", 20)]),
        ])
        self.assert_judged(ROW, "mark up: back 3 < here", [
            ("hill", 50, "up", [("hill", 0), ("hill", 50)]),
        ])
        self.assert_judged(ROW, "mark up: back 4 < here", [])

    def test_on(self):
        self.assert_judged(ROW, "mark down: on 1 < here", [
            ("sea", 0, "down", [("sea", 0), ("sea", 20)]), ("hill", 20, "down", [("hill", 20), ("hill", 50)]),
        ])
        self.assert_judged(ROW, "mark down: on 2 < here", [
            ("hill", 10, "down", [("hill", 10), ("hill", 50)]),
        ])
        self.assert_judged(ROW, "mark up: here < on 3", [
            ("hill", 0, "up", [("hill", 0), ("hill", 50)]),
        ])
        self.assert_judged(ROW, "mark down: on 4 < here", [])

    def test_near_the_rows_ends_what_is_asked_for_is_not_there(self):
        row = [("hill", time, (0, 1)) for time in range(12)]
        for place in range(1, 10):
            back = [("hill", time) for time in range(place, 12)]
            on = [("hill", time) for time in range(12 - place)]
            self.assert_marked(row, "mark x: back " + str(place) + " = 0", back)
            self.assert_marked(row, "mark x: on " + str(place) + " = 0", on)
            self.assert_marked(row, "mark x: 0 < ago " + str(place), back)
            self.assert_marked(row, "mark x: 0 < until " + str(place), on)
            self.assert_marked(row, "mark x: back " + str(place) + " = on 1", back[:-1])

    def test_all_that_is_asked_for_has_to_be_there(self):
        row = [("hill", time, (0, 1)) for time in range(4)]
        # The condition would hold without what is not there.
        self.assert_marked(row, "mark x: 0 < 1 or back 2 = 0", [("hill", 2), ("hill", 3)])
        self.assert_marked(row, "mark x: not [0 = 1 and on 3 = 0]", [("hill", 0)])
        self.assert_marked(row, "mark x: 0 * at sea = 0", [])
        self.assert_marked(row, "mark x: here = 0 or at sea = 0", [])

    def test_at_another_mast_with_and_without_a_reading_of_the_same_time(self):
        self.assert_judged(ROW, "mark other: not at sea = here", [
            ("hill", 0, "other", [("hill", 0), ("sea", 0)]), ("hill", 20, "other", [("hill", 20), ("sea", 20)]),
        ])
        self.assert_judged(ROW, "mark same: at top = here", [
            ("hill", 50, "same", [("hill", 50), ("top", 50)]), ("top", 50, "same", [("top", 50)]),
        ])
        self.assert_judged(ROW, "mark high: at hill < here", [
            ("sea", 0, "high", [("hill", 0), ("sea", 0)]),
        ])
        self.assert_judged(ROW, "mark gone: at nowhere = at nowhere", [])

    def test_at_its_own_mast(self):
        self.assert_judged(ROW, "mark own: at hill = here and at hill = at hill", [
            ("hill", 0, "own", [("hill", 0)]), ("hill", 10, "own", [("hill", 10)]),
            ("hill", 20, "own", [("hill", 20)]), ("hill", 50, "own", [("hill", 50)]),
            ("top", 50, "own", [("hill", 50), ("top", 50)]),
        ])

    def test_ago(self):
        self.assert_judged(ROW, "mark late: 10 < ago 1", [
            ("sea", 20, "late", [("sea", 0), ("sea", 20)]), ("hill", 50, "late", [("hill", 20), ("hill", 50)]),
        ])
        self.assert_judged(ROW, "mark late: ago 2 = 20", [
            ("hill", 20, "late", [("hill", 0), ("hill", 20)]),
        ])

    def test_until(self):
        self.assert_judged(ROW, "mark early: until 1 < 20", [
            ("hill", 0, "early", [("hill", 0), ("hill", 10)]), ("hill", 10, "early", [("hill", 10), ("hill", 20)]),
        ])
        self.assert_judged(ROW, "mark early: until 2 = 40", [
            ("hill", 10, "early", [("hill", 10), ("hill", 50)]),
        ])

    def test_seen_has_each_reading_once_as_in_the_row(self):
        self.assert_judged(ROW, "mark x: on 1 < here + 9 and 0 < back 1 and 0 < ago 1 + until 1 + at hill + back 2", [
            ("hill", 20, "x", [("hill", 0), ("hill", 10), ("hill", 20), ("hill", 50)]),
        ])
        row = [("b", 5, (0, 1)), ("a", 7, (0, 1)), ("b", 7, (0, 1)), ("c", 7, (0, 1)), ("b", 9, (0, 1))]
        self.assert_judged(row, "mark x: at c + at a + at b + here + back 1 = on 1", [
            ("b", 7, "x", [("b", 5), ("a", 7), ("b", 7), ("c", 7), ("b", 9)]),
        ])

    def test_masts_do_not_see_each_other_but_by_at(self):
        mixed = [("a", 0, (1, 1)), ("b", 1, (9, 1)), ("a", 2, (2, 1)), ("b", 3, (1, 1)), ("a", 4, (3, 1))]
        self.assert_judged(mixed, "mark up: back 1 < here and ago 1 = 2", [
            ("a", 2, "up", [("a", 0), ("a", 2)]), ("a", 4, "up", [("a", 2), ("a", 4)]),
        ])
        self.assert_judged(mixed, "mark down: back 1 + 1 < on 1 or back 1 = on 1", [
            ("a", 2, "down", [("a", 0), ("a", 2), ("a", 4)]),
        ])
        self.assert_judged(mixed, "mark by: at b = at b", [
            ("b", 1, "by", [("b", 1)]), ("b", 3, "by", [("b", 3)]),
        ])

    def test_a_rule_judges_by_all_that_stood_ahead_of_it(self):
        # What the rule itself marks stands while it judges.
        row = [("hill", time, (time, 1)) for time in range(5)]
        self.assert_judged(row, "mark up: back 1 < here", [
            ("hill", time, "up", [("hill", time - 1), ("hill", time)]) for time in range(1, 5)
        ])
        self.assert_judged(row, "mark up: here < on 1", [
            ("hill", time, "up", [("hill", time), ("hill", time + 1)]) for time in range(4)
        ])

    def test_numbers_of_sixty_figures(self):
        most = 10 ** 60 - 1
        row = [("hill", 0, (most, 1)), ("hill", 10 ** 9, (-most, 10 ** 33 + 7))]
        self.assert_judged(row, "mark x: back 1 < here + 999999999", [])
        self.assert_judged(row, "mark x: here + 999999999 < back 1 and ago 1 = 999999999 + 1", [
            ("hill", 10 ** 9, "x", [("hill", 0), ("hill", 10 ** 9)]),
        ])


class SeveralRules(Judged):
    def test_a_second_rule_sees_only_what_the_first_left_standing(self):
        # Behind the first rule hill has 1 at 0, 4 at 10 and 2 at 50.
        self.assert_judged(ROW, "mark big: 8 < here\nmark down: here < back 1", [
            ("hill", 20, "big", [("hill", 20)]),
            ("sea", 20, "down", [("sea", 0), ("sea", 20)]), ("hill", 50, "down", [("hill", 10), ("hill", 50)]),
        ])
        self.assert_judged(ROW, "mark big: 8 < here\nmark far: 30 < ago 1", [
            ("hill", 20, "big", [("hill", 20)]), ("hill", 50, "far", [("hill", 10), ("hill", 50)]),
        ])
        self.assert_judged(ROW, "mark big: 8 < here\nmark far: until 1 = 40", [
            ("hill", 20, "big", [("hill", 20)]), ("hill", 10, "far", [("hill", 10), ("hill", 50)]),
        ])

    def test_places_are_counted_anew(self):
        self.assert_judged(ROW, "mark big: 8 < here\nmark third: here < 3 and 0 < back 2", [
            ("hill", 20, "big", [("hill", 20)]), ("hill", 50, "third", [("hill", 0), ("hill", 50)]),
        ])
        self.assert_judged(ROW, "mark big: 8 < here\nmark fourth: here = here or back 3 = 0", [
            ("hill", 20, "big", [("hill", 20)]),
        ])
        self.assert_judged(ROW, "mark big: 8 < here\nmark two: on 2 = on 2", [
            ("hill", 20, "big", [("hill", 20)]), ("hill", 0, "two", [("hill", 0), ("hill", 50)]),
        ])

    def test_at_a_mast_whose_reading_is_marked(self):
        self.assert_judged(ROW, "mark big: 8 < here\nmark by: at hill = at hill and at sea = at sea", [
            ("hill", 20, "big", [("hill", 20)]),
            ("hill", 0, "by", [("hill", 0), ("sea", 0)]), ("sea", 0, "by", [("hill", 0), ("sea", 0)]),
        ])

    def test_two_rules_that_would_both_mark_a_reading(self):
        self.assert_judged(HILL, "mark big: 8 < here\nmark great: 3 < here", [
            ("hill", 20, "big", [("hill", 20)]), ("hill", 10, "great", [("hill", 10)]),
        ])
        self.assert_judged(HILL, "mark great: 3 < here\nmark big: 8 < here", [
            ("hill", 10, "great", [("hill", 10)]), ("hill", 20, "great", [("hill", 20)]),
        ])

    def test_a_first_rule_that_marks_all(self):
        expected = [(mast, time, "all", [(mast, time)]) for mast, time, value in ROW]
        self.assert_judged(ROW, "mark all: 0 < 1\nmark more: 0 < 1\nmark up: back 1 < here", expected)

    def test_the_order_of_the_marks(self):
        # By the rules first, whatever their names; each rule's own as in the row.
        self.assert_judged(ROW, "mark z: here = 2\nmark a: here < 5 and 0 < here", [
            ("sea", 20, "z", [("sea", 20)]), ("hill", 50, "z", [("hill", 50)]), ("top", 50, "z", [("top", 50)]),
            ("hill", 0, "a", [("hill", 0)]), ("hill", 10, "a", [("hill", 10)]),
        ])

    def test_three_rules(self):
        row = [("hill", time, (value, 1)) for time, value in enumerate((3, 1, 4, 1, 5, 9, 2, 6))]
        text = "mark peak: back 1 < here and on 1 < here\nmark low: here < 2\nmark end: back 1 < here"
        self.assert_judged(row, text, [
            ("hill", 2, "peak", [("hill", 1), ("hill", 2), ("hill", 3)]),
            ("hill", 5, "peak", [("hill", 4), ("hill", 5), ("hill", 6)]),
            ("hill", 1, "low", [("hill", 1)]), ("hill", 3, "low", [("hill", 3)]),
            ("hill", 4, "end", [("hill", 0), ("hill", 4)]), ("hill", 7, "end", [("hill", 6), ("hill", 7)]),
        ])


class Own(unittest.TestCase):
    def test_what_was_told_stays_when_the_row_is_changed_later(self):
        row = list(ROW)
        rules = read_rules("mark big: 8 < here\nmark up: back 1 < here")[0]
        told = marks(row, rules)
        stands = standing(row, rules)
        kept = copy.deepcopy((told, stands))
        row.clear()
        rules.clear()
        self.assertEqual((told, stands), kept)

    def test_what_is_told_is_the_askers_own(self):
        row = list(ROW)
        rules = read_rules("mark big: 8 < here")[0]
        standing(row, rules).clear()
        standing(row, []).clear()
        told = marks(row, rules)
        told[0][3].append(None)
        told.clear()
        self.assertEqual(row, ROW)
        self.assertEqual(marks(row, rules), [("hill", 20, "big", [("hill", 20)])])
        self.assertIsNot(standing(row, []), row)

    def test_each_mark_has_a_list_of_its_own(self):
        told = marks(ROW, read_rules("mark all: 0 < 1 + 0 * at hill")[0])
        lists = [mark[3] for mark in told]
        self.assertEqual(len(lists), len({id(one) for one in lists}))


class Many(unittest.TestCase):
    def test_rows_and_rules_by_hand(self):
        chance = random.Random(16)
        several = 0
        for turn in range(600):
            row = some_row(chance, 25, chance.choice((12, 30)))
            rules = some_rules(chance, 4)
            expected = judged_by_hand(row, rules)
            self.assertEqual(marks(row, rules), expected[0], (row, rules))
            self.assertEqual(standing(row, rules), expected[1], (row, rules))
            several += len({mark[2] for mark in expected[0]}) > 1 and len(expected[1]) > 1
        self.assertGreater(several, 40)

    def test_the_condition_holds_of_what_a_mark_tells_and_not_of_what_stands(self):
        # With places of 1 alone and no at, what is seen tells by itself what the condition was asked of.
        chance = random.Random(17)
        marked = 0
        for turn in range(400):
            row = some_row(chance, 20)
            rules = some_rules(chance, 3, (), 1)
            values = {reading[:2]: reading[1:] for reading in row}
            for mast, time, name, seen in marks(row, rules):
                condition = dict(rules)[name]
                found = {("here",): values[(mast, time)]}
                found.update({("back", 1): values[key] for key in seen if key[1] < time})
                found.update({("on", 1): values[key] for key in seen if key[1] > time})
                self.assertTrue(holds(condition, found))
                self.assertIn((mast, time), seen)
                marked += 1
            for number in range(len(rules)):
                ahead = standing(row, rules[:number])
                taken = [mark[:2] for mark in marks(ahead, [rules[number]])]
                for reading in standing(row, rules):
                    self.assertIn(reading, ahead)
                    self.assertNotIn(reading[:2], taken)
        self.assertGreater(marked, 100)

    def test_two_hundred_readings_and_twelve_rules(self):
        chance = random.Random(18)
        for turn in range(3):
            places = sorted(chance.sample([(time, mast) for time in range(300) for mast in MASTS], 200))
            row = [
                (mast, time, as_tuple(fractions.Fraction(chance.randrange(10 ** 60), chance.randrange(1, 10 ** 6))))
                for time, mast in places
            ]
            rules = []
            while len(rules) < 12:
                rules = some_rules(chance, 12, most_place=9)
            expected = judged_by_hand(row, rules)
            self.assertEqual((marks(row, rules), standing(row, rules)), expected)

    def test_long_conditions_over_two_hundred_readings(self):
        # Rows whose values have unlike bottoms: a sum of many of them is long.
        row = [("hill", 7 * place, (10 ** 60 + 2 * place + 1, 2 ** (100 + place % 9))) for place in range(200)]
        text = "here" + "".join(" + back " + str(place) for place in range(1, 10)) + " < on 1 + on 2 + on 3"
        rules = read_rules("\n".join("mark " + name + ": " + text for name in "abcdefghijkl"))[0]
        self.assertEqual((marks(row, rules), standing(row, rules)), judged_by_hand(row, rules))


if __name__ == "__main__":
    unittest.main()
