import copy
import random
import unittest

from some_rows import judged_by_hand, some_row, some_rules
from weather.marks import marks, standing
from weather.parting import parted, reach
from weather.reading import read_rules

ROW = [
    ("hill", 0, (1, 1)), ("sea", 0, (5, 1)), ("hill", 10, (4, 1)), ("hill", 20, (9, 1)), ("sea", 20, (2, 1)),
    ("hill", 50, (2, 1)), ("top", 50, (2, 1)),
]


def rules_of(text):
    return read_rules(text)[0]


class Parted(unittest.TestCase):
    def assert_parted(self, row, text, other, expected):
        rules, others = rules_of(text), rules_of(other)
        ahead = copy.deepcopy((row, rules, others))
        for turn in range(2):
            told = parted(row, rules, others)
            self.assertEqual(told, expected)
            self.assertEqual(type(told), type(expected))
            self.assertEqual(parted(row, others, rules), expected)
        self.assertEqual((row, rules, others), ahead)

    def test_the_same_books(self):
        for text in ("", "mark big: 4 < here", "mark big: 4 < here\nmark up: back 1 < here"):
            self.assert_parted(ROW, text, text, None)
            self.assert_parted([], text, text, None)

    def test_a_row_without_readings(self):
        self.assert_parted([], "mark all: 0 < 1", "", None)

    def test_at_the_first_reading(self):
        self.assert_parted(ROW, "mark all: 0 < 1", "", ("hill", 0))
        self.assert_parted(ROW, "mark one: here = 1", "mark big: 4 < here", ("hill", 0))

    def test_at_a_later_reading(self):
        self.assert_parted(ROW, "mark big: 4 < here", "", ("sea", 0))
        self.assert_parted(ROW, "mark big: 4 < here", "mark big: 8 < here", ("sea", 0))
        self.assert_parted(ROW, "mark big: 8 < here", "", ("hill", 20))
        self.assert_parted(ROW, "mark two: here = 2", "mark low: here < 3 and 1 < here and ago 1 = 20", ("hill", 50))

    def test_at_the_last_reading(self):
        self.assert_parted(ROW, "mark two: here = 2", "mark low: here = 2 and 0 < ago 1", ("top", 50))

    def test_not_at_all(self):
        self.assert_parted(ROW, "mark none: 1 < 0", "", None)
        self.assert_parted(ROW, "mark big: 4 < here", "mark great: 9/2 < here", None)
        self.assert_parted(ROW, "mark big: 4 < here\nmark one: here = 1", "mark both: here = 1 or 4 < here", None)

    def test_names_and_order_part_nothing_by_themselves(self):
        self.assert_parted(ROW, "mark a: here = 1\nmark b: here = 2", "mark c: here = 2\nmark d: here = 1", None)
        # By the one order 4 stands ahead of 9 while it is judged.
        self.assert_parted(
            ROW, "mark a: here = 4\nmark b: back 1 = 4", "mark b: back 1 = 4\nmark a: here = 4", ("hill", 20),
        )

    def test_which_rule_marks_parts_nothing(self):
        self.assert_parted(
            ROW, "mark a: here = 1\nmark b: here < 3", "mark a: here < 3\nmark b: here = 1", None,
        )

    def test_many(self):
        chance = random.Random(23)
        came = {True: 0, False: 0}
        for turn in range(400):
            row = some_row(chance, 15, 20)
            rules, others = some_rules(chance, 2), some_rules(chance, 2)
            ones, twos = judged_by_hand(row, rules)[1], judged_by_hand(row, others)[1]
            found = [reading[:2] for reading in row if (reading in ones) != (reading in twos)]
            told = parted(row, rules, others)
            self.assertEqual(told, found[0] if found else None)
            self.assertEqual(told is None, standing(row, rules) == standing(row, others))
            came[told is None] += 1
        self.assertGreater(min(came.values()), 50)


class Reach(unittest.TestCase):
    def assert_reach(self, text, expected):
        rules = rules_of(text)
        ahead = copy.deepcopy(rules)
        for turn in range(2):
            told = reach(rules)
            self.assertEqual(told, expected)
            self.assertIs(type(told), type(expected))
        self.assertEqual(rules, ahead)

    def test_no_rules(self):
        self.assert_reach("", 0)

    def test_without_any(self):
        self.assert_reach("mark a: here < 9", 0)
        self.assert_reach("mark a: not abs(here - 5) = 9/2 or 7 * here < 8", 0)

    def test_each_of_them(self):
        for word in ("back", "on", "ago", "until"):
            for place in range(1, 10):
                self.assert_reach("mark a: here < " + word + " " + str(place), place)

    def test_the_greatest_of_them(self):
        self.assert_reach("mark a: back 1 < on 2", 2)
        self.assert_reach("mark a: back 3 < on 2", 3)
        self.assert_reach("mark a: ago 4 < on 2 and until 5 < back 3", 5)
        self.assert_reach("mark a: ago 7 < on 2 or until 5 < back 3", 7)
        self.assert_reach("mark a: back 2 < 5 and ago 9 < 5 and on 3 < 5", 9)

    def test_deep_within(self):
        self.assert_reach("mark a: not not [1 < 2 or not 1 < abs(3 * (here - abs(until 6)))]", 6)

    def test_with_at(self):
        self.assert_reach("mark a: at sea < here", None)
        self.assert_reach("mark a: at sea < back 3", None)
        self.assert_reach("mark a: not [1 < 2 or 1 < abs(3 * (here - abs(at a)))]", None)

    def test_several(self):
        self.assert_reach("mark a: here < back 2\nmark b: until 3 < 9\nmark c: here = 1", 5)
        self.assert_reach("mark a: here < back 9\nmark b: on 9 < back 9", 18)
        self.assert_reach("\n".join("mark " + name + ": ago 9 < 1" for name in "abcdefghijkl"), 108)

    def test_several_with_at_in_one(self):
        for rows in (["mark a: at sea < 1", "mark b: back 2 < 1"], ["mark b: back 2 < 1", "mark a: at sea < 1"]):
            self.assert_reach("\n".join(rows), None)


def rule_marks(row, rules):
    """By which rule each reading is marked, None where it stands."""
    told = {reading[:2]: None for reading in row}
    told.update({mark[:2]: mark[2] for mark in marks(row, rules)})
    return told


class ReadingMore(unittest.TestCase):
    def test_a_reading_more_changes_marks_within_the_reach_alone(self):
        chance = random.Random(24)
        changed = 0
        far = 0
        for turn in range(1500):
            longer = some_row(chance, 30, 20, ("a", "hill"))
            rules = some_rules(chance, 3, (), chance.choice((1, 1, 2, 3)))
            if longer == []:
                continue
            more = chance.choice(longer)
            shorter = [reading for reading in longer if reading != more]
            ones, twos = rule_marks(longer, rules), rule_marks(shorter, rules)
            both = [key for key in twos if ones[key] is None and twos[key] is None and key[0] == more[0]]
            for mast, time in twos:
                between = [key for key in both if min(time, more[1]) < key[1] < max(time, more[1])]
                if mast != more[0] or len(between) >= reach(rules):
                    self.assertEqual(ones[(mast, time)], twos[(mast, time)], (longer, more, rules))
                    far += 1
                changed += ones[(mast, time)] != twos[(mast, time)]
        self.assertGreater(changed, 100)
        self.assertGreater(far, 1000)

    def test_the_reach_is_no_wider_than_it_has_to_be(self):
        # The rule marks by the third one back: a reading more moves that one for all up to three behind it.
        row = [("hill", 10 * place, (place, 1)) for place in range(10)]
        rules = rules_of("mark a: here < back 3")
        self.assertEqual(reach(rules), 3)
        self.assertEqual(marks(row, rules), [])
        longer = row[:4] + [("hill", 35, (99, 1))] + row[4:]
        self.assertEqual([mark[1] for mark in marks(longer, rules)], [60])


if __name__ == "__main__":
    unittest.main()
