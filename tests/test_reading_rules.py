import unittest

from some_conditions import count_parts
from weather.errors import NoText
from weather.reading import read_rules

KEY_WORDS = "mark fill here back on at ago until abs and or not".split(" ")
HERE = ("here",)
A = ("<", HERE, ("num", (1, 1)))
B = ("=", HERE, ("num", (2, 1)))
C = ("<", ("num", (1, 1)), HERE)


class Rules(unittest.TestCase):
    def assert_book(self, text, rules, fill):
        for turn in range(2):
            told = read_rules(text)
            self.assertEqual(told, (rules, fill))
            self.assertIs(type(told), tuple)
            self.assertIs(type(told[0]), list)
            self.assertEqual([type(rule) for rule in told[0]], [tuple] * len(rules))

    def assert_none(self, text, row):
        with self.subTest(text=text):
            with self.assertRaises(NoText) as caught:
                read_rules(text)
            self.assertEqual(caught.exception.row, row)

    def test_the_text_without_signs(self):
        self.assert_book("", [], None)

    def test_rows_of_blanks_alone(self):
        for text in (" ", "\n", "   \n\n  ", "\n" * 399, " " * 4000):
            self.assert_book(text, [], None)

    def test_rules_alone(self):
        self.assert_book("mark cold: here < 1", [("cold", A)], None)
        self.assert_book("mark cold: here < 1\nmark a: here = 2\nmark mountain: not 1 < here", [
            ("cold", A), ("a", B), ("mountain", ("not", C)),
        ], None)

    def test_unlike_names_of_one_condition(self):
        self.assert_book("mark b: here < 1\nmark a: here < 1", [("b", A), ("a", A)], None)

    def test_a_fill_alone(self):
        for step, most in ((1, 1), (1, 100), (10, 60), (7, 7), (7, 700), (10 ** 6, 10 ** 6), (10 ** 6, 10 ** 8)):
            self.assert_book("fill " + str(step) + " " + str(most), [], (step, most))

    def test_both(self):
        self.assert_book("mark cold: here < 1\nmark odd: here = 2\nfill 10 60", [("cold", A), ("odd", B)], (10, 60))

    def test_rows_of_blanks_between_ahead_and_behind(self):
        rows = ["", "mark cold: here < 1", "   ", "", "mark odd: here = 2", " ", "fill 10 60", "", "     "]
        self.assert_book("\n".join(rows), [("cold", A), ("odd", B)], (10, 60))
        self.assert_book("mark cold: here < 1\n", [("cold", A)], None)
        self.assert_book("\nmark cold: here < 1", [("cold", A)], None)

    def test_blanks_strewn(self):
        self.assert_book("  mark   cold  :   here<1  \n   fill   10    60   ", [("cold", A)], (10, 60))
        self.assert_book("mark cold:here<1\nmark odd :here=2", [("cold", A), ("odd", B)], None)
        self.assert_book("mark cold:[here<1]", [("cold", A)], None)

    def test_twelve_rules(self):
        names = "abcdefghijkl"
        text = "\n".join("mark " + name + ": here < 1" for name in names)
        self.assert_book(text, [(name, A) for name in names], None)
        self.assert_book(text + "\n\nfill 1 2\n", [(name, A) for name in names], (1, 2))

    def test_a_thirteenth_rule(self):
        rows = ["mark " + name + ": here < 1" for name in "abcdefghijklm"]
        self.assert_none("\n".join(rows), 13)
        self.assert_none("\n\n".join(rows), 25)
        self.assert_none("\n".join(rows + ["nothing"]), 13)
        self.assert_none("\n".join(rows[:12] + ["", "mark m here", "fill 1 2"]), 14)

    def test_thirty_parts_and_sixteen_brackets_in_each_rule(self):
        full = "not " * 27 + "here < 1"
        deep = "[" * 16 + "here < 1" + "]" * 16
        rules = read_rules("mark a: " + full + "\nmark b: " + deep + "\nmark c: " + full + "\nmark d: " + deep)[0]
        self.assertEqual([count_parts(rule[1]) for rule in rules], [30, 3, 30, 3])
        self.assert_none("mark a: " + full + "\nmark b: not " + full, 2)
        self.assert_none("mark a: " + deep + "\n\nmark b: [" + deep + "]", 3)

    def test_another_form(self):
        for row in (
            "mark", "mark cold", "mark cold:", "mark cold here < 1", "mark : here < 1", "cold: here < 1", "here < 1",
            ":", "x", "mark cold:: here < 1", "mark cold: here", "mark cold: here < 1 fill 1 2",
            "mark cold: here < 1:", "markcold: here < 1", "mark cold hot: here < 1", "Mark cold: here < 1",
            "mark Cold: here < 1", "mark cold1: here < 1", "mark 1: here < 1", "mark mountains: here < 1",
            "mark cold; here < 1", "mark cold: here < 1;", "mark mark cold: here < 1", "mark cold: (here < 1)",
            "mark cold: 2/4 < here", "mark cold: back 0 < 1", "mark cold: at here < 1", "\tmark cold: here < 1", "\t",
            " \t ", "mark cold: here < 1\r", "# cold", "mark cold: not", "-", "mark(cold): here < 1",
        ):
            self.assert_row_none(row)

    def test_a_key_word_for_the_name(self):
        for word in KEY_WORDS:
            self.assert_row_none("mark " + word + ": here < 1")

    def test_another_form_of_fill(self):
        for row in (
            "fill", "fill 1", "fill 1 2 3", "fill 1 2:", "fill: 1 2", "fill a b", "fill 1 x", "fill x 2", "fill12 13",
            "fill 1, 2", "fill 1/2 3", "fill 1 3/2", "fill -1 2", "fill 1 -2", "fill +1 2", "fill 01 2", "fill 1 02",
            "fill (1) 2", "Fill 1 2", "fill 1 2 mark a: here < 1", "fill\t1 2", "fill 1.0 2",
        ):
            self.assert_row_none(row)

    def test_a_step_or_most_beyond_its_bounds(self):
        for row in (
            "fill 0 0", "fill 0 1", "fill 1 0", "fill 2 1", "fill 1 101", "fill 10 9", "fill 10 1001",
            "fill 1000001 1000001", "fill 1000000 999999", "fill 1000000 100000001", "fill 10 " + "9" * 70,
            "fill " + "9" * 70 + " 10", "fill " + "9" * 3000 + " 1",
        ):
            self.assert_row_none(row)

    def assert_row_none(self, row):
        self.assert_none(row, 1)
        self.assert_none("\n" + row, 2)
        self.assert_none("mark one: here < 1\n" + row, 2)
        self.assert_none("mark one: here < 1\n\n   \nmark two: here = 2\n" + row + "\nmark one: here < 1\nnothing", 5)

    def test_a_name_that_a_rule_ahead_has(self):
        self.assert_none("mark cold: here < 1\nmark cold: here < 1", 2)
        self.assert_none("mark cold: here < 1\nmark odd: here = 2\n\nmark cold: 1 < here\nmark cold: here < 1", 4)
        self.assert_none("mark a: here < 1\nmark b: here < 1\nmark b: here < 1\nmark a: here < 1", 3)

    def test_a_row_behind_the_fill(self):
        self.assert_none("fill 10 60\nmark cold: here < 1", 2)
        self.assert_none("fill 10 60\nfill 10 60", 2)
        self.assert_none("mark cold: here < 1\nfill 10 60\n\n  \nmark odd: here = 2\nnothing", 5)
        self.assert_none("fill 10 60\nnothing", 2)
        self.assert_none("fill 10 60\n\t", 2)

    def test_the_first_row_that_is_none(self):
        self.assert_none("nothing\nmark cold: here < 1\nnothing", 1)
        self.assert_none("\n\n\nnothing", 4)
        self.assert_none("mark cold: here < 1\nfill 0 1\nfill 1 1", 2)
        self.assert_none("mark cold: here\nmark cold: here < 1\nmark cold: here < 1", 1)
        self.assert_none("\n" * 398 + "mark cold: here < 1\nnothing", 400)

    def test_what_is_given_is_the_askers_own(self):
        text = "mark cold: here < 1\nfill 10 60"
        told = read_rules(text)
        told[0].append(("odd", B))
        told[0][0] = None
        self.assert_book(text, [("cold", A)], (10, 60))
        read_rules("")[0].append(("odd", B))
        self.assert_book("", [], None)


if __name__ == "__main__":
    unittest.main()
