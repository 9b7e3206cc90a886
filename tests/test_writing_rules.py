import copy
import random
import unittest

from some_conditions import count_parts, some_condition
from weather.reading import read_rules
from weather.writing import show_rules

A = ("<", ("here",), ("num", (1, 1)))
B = ("=", ("here",), ("num", (2, 1)))


class Books(unittest.TestCase):
    def assert_text(self, book, text):
        ahead = copy.deepcopy(book)
        for turn in range(2):
            told = show_rules(book)
            self.assertEqual(told, text)
            self.assertIs(type(told), str)
        self.assertEqual(book, ahead)
        self.assertEqual(read_rules(text), book)

    def test_none(self):
        self.assert_text(([], None), "")

    def test_rules_alone(self):
        self.assert_text(([("cold", A)], None), "mark cold: here < 1")
        self.assert_text(
            ([("odd", B), ("a", A), ("mountain", ("not", ("or", A, B)))], None),
            "mark odd: here = 2\nmark a: here < 1\nmark mountain: not [here < 1 or here = 2]",
        )

    def test_a_fill_alone(self):
        for step, most in ((1, 1), (1, 100), (10, 60), (7, 700), (10 ** 6, 10 ** 8)):
            self.assert_text(([], (step, most)), "fill " + str(step) + " " + str(most))

    def test_both(self):
        self.assert_text(
            ([("odd", B), ("cold", A)], (10, 60)), "mark odd: here = 2\nmark cold: here < 1\nfill 10 60",
        )

    def test_twelve_rules(self):
        names = "lkjihgfedcba"
        rows = ["mark " + name + ": here < 1" for name in names] + ["fill 5 5"]
        self.assert_text(([(name, A) for name in names], (5, 5)), "\n".join(rows))

    def test_blanks_are_written_once(self):
        book = read_rules("\n  mark  cold :here<1 \n\n mark odd:[ here=2 ]\n  fill  10   60 \n\n")
        self.assert_text(book, "mark cold: here < 1\nmark odd: here = 2\nfill 10 60")

    def test_many_books(self):
        chance = random.Random(14)
        for turn in range(300):
            names = chance.sample(["cold", "hot", "a", "b", "leap", "mountain", "num", "times"], chance.randrange(9))
            conditions = [some_condition(chance, chance.randrange(4)) for name in names]
            rules = [rule for rule in zip(names, conditions) if count_parts(rule[1]) <= 30]
            step = chance.randrange(1, 10 ** 6)
            fill = chance.choice((None, (step, step * chance.randrange(1, 101))))
            text = show_rules((rules, fill))
            self.assertEqual(read_rules(text), (rules, fill))
            self.assertEqual(text.count("\n") + 1 if text else 0, len(rules) + (fill is not None))


if __name__ == "__main__":
    unittest.main()
