import random
import unittest

from some_conditions import bracketed_text, count_parts, some_condition
from weather.errors import NoText
from weather.reading import read_condition

KEY_WORDS = "mark fill here back on at ago until abs and or not".split(" ")
HERE = ("here",)
ONE = ("num", (1, 1))
TWO = ("num", (2, 1))
A = ("<", HERE, ONE)
B = ("=", HERE, TWO)
C = ("<", ONE, HERE)


def most_brackets(text):
    deep = [0]
    for sign in text:
        deep.append(deep[-1] + (sign in "([") - (sign in ")]"))
    return max(deep)


class Checked(unittest.TestCase):
    def assert_read(self, *pairs):
        for text, condition in pairs:
            with self.subTest(text=text):
                self.assertEqual(read_condition(text), condition)
                self.assertEqual(read_condition(text), condition)

    def assert_terms(self, *pairs):
        """Each term on either side of a comparison."""
        for text, term in pairs:
            self.assert_read((text + " < 1", ("<", term, ONE)), ("1 = " + text, ("=", ONE, term)))

    def assert_refused(self, *texts):
        for text in texts:
            with self.subTest(text=text):
                with self.assertRaises(NoText) as caught:
                    read_condition(text)
                self.assertEqual(caught.exception.row, 1)

    def assert_no_terms(self, *texts):
        for text in texts:
            self.assert_refused(text + " < 1", "1 < " + text, "1 = " + text, "here + " + text + " < 1")


class Singles(Checked):
    def test_fractions(self):
        self.assert_terms(
            ("0", ("num", (0, 1))), ("1", ONE), ("10", ("num", (10, 1))), ("1/2", ("num", (1, 2))),
            ("22/7", ("num", (22, 7))), ("999999999", ("num", (999999999, 1))), ("1/999999", ("num", (1, 999999))),
            ("999999998/999999", ("num", (999999998, 999999))),
        )

    def test_readings_and_minutes(self):
        self.assert_terms(("here", HERE))
        for kind in ("back", "on", "ago", "until"):
            self.assert_terms(*[(kind + " " + str(place), (kind, place)) for place in range(1, 10)])

    def test_masts(self):
        for mast in ("a", "hill", "mountain", "num", "times", "marks", "no"):
            self.assert_terms(("at " + mast, ("at", mast)))

    def test_without_a_sign(self):
        self.assert_terms(
            ("abs(here)", ("abs", HERE)), ("abs(abs(1/2))", ("abs", ("abs", ("num", (1, 2))))),
            ("abs(here - back 1)", ("abs", ("-", HERE, ("back", 1)))), ("abs((here))", ("abs", HERE)),
            ("abs(2 * here)", ("abs", ("times", (2, 1), HERE))),
        )

    def test_terms_in_round_brackets(self):
        self.assert_terms(("(here)", HERE), ("((1))", ONE), ("(here + 1)", ("+", HERE, ONE)))
        self.assert_terms(("(abs(here))", ("abs", HERE)))
        self.assert_terms(("(2 * here)", ("times", (2, 1), HERE)), ("(at sea)", ("at", "sea")))

    def test_what_is_read_is_made_of_tuples(self):
        self.assertIs(type(read_condition("here < 1")), tuple)
        self.assertIs(type(read_condition("here < back 1")[2][1]), int)
        self.assertIs(type(read_condition("here < 1/2")[2][1]), tuple)


class Sums(Checked):
    def test_from_the_left(self):
        self.assert_terms(
            ("here + 1", ("+", HERE, ONE)), ("here - 1", ("-", HERE, ONE)),
            ("here - 1 - 2", ("-", ("-", HERE, ONE), TWO)), ("here + 1 - 2", ("-", ("+", HERE, ONE), TWO)),
            ("here - 1 + 2", ("+", ("-", HERE, ONE), TWO)), ("here + 1 + 2", ("+", ("+", HERE, ONE), TWO)),
            ("1 - 2 + here - back 3", ("-", ("+", ("-", ONE, TWO), HERE), ("back", 3))),
        )

    def test_brackets(self):
        self.assert_terms(
            ("here - (1 - 2)", ("-", HERE, ("-", ONE, TWO))), ("(here - 1) - 2", ("-", ("-", HERE, ONE), TWO)),
            ("here + (1 + 2)", ("+", HERE, ("+", ONE, TWO))), ("here - (1) - 2", ("-", ("-", HERE, ONE), TWO)),
            ("here - (1 - (2 - here)) + 1", ("+", ("-", HERE, ("-", ONE, ("-", TWO, HERE))), ONE)),
        )

    def test_both_sides_are_sums(self):
        self.assert_read(("here + 1 < 2 - here", ("<", ("+", HERE, ONE), ("-", TWO, HERE))))
        self.assert_read(("2 * here - 1 = 1 + 2 * here", (
            "=", ("-", ("times", (2, 1), HERE), ONE), ("+", ONE, ("times", (2, 1), HERE)),
        )))


class Products(Checked):
    def test_of_each_single_thing(self):
        self.assert_terms(
            ("2 * here", ("times", (2, 1), HERE)), ("1/2 * 1", ("times", (1, 2), ONE)),
            ("0 * 2", ("times", (0, 1), TWO)), ("2 * 1/2", ("times", (2, 1), ("num", (1, 2)))),
            ("2 * back 3", ("times", (2, 1), ("back", 3))), ("2 * on 3", ("times", (2, 1), ("on", 3))),
            ("2 * ago 3", ("times", (2, 1), ("ago", 3))), ("2 * until 3", ("times", (2, 1), ("until", 3))),
            ("2 * at sea", ("times", (2, 1), ("at", "sea"))), ("2 * abs(here)", ("times", (2, 1), ("abs", HERE))),
            ("2 * (here)", ("times", (2, 1), HERE)), ("2 * (3 * here)", ("times", (2, 1), ("times", (3, 1), HERE))),
            ("2 * (here + 1)", ("times", (2, 1), ("+", HERE, ONE))),
        )

    def test_bounds(self):
        self.assert_terms(
            ("999999999 * here", ("times", (999999999, 1), HERE)), ("1/999999 * here", ("times", (1, 999999), HERE)),
        )

    def test_within_sums(self):
        self.assert_terms(
            ("2 * here + 1", ("+", ("times", (2, 1), HERE), ONE)),
            ("1 + 2 * here", ("+", ONE, ("times", (2, 1), HERE))),
            ("1 - 2 * here - 1", ("-", ("-", ONE, ("times", (2, 1), HERE)), ONE)),
            ("2 * here - 3 * here", ("-", ("times", (2, 1), HERE), ("times", (3, 1), HERE))),
        )


class Conditions(Checked):
    def test_comparisons(self):
        self.assert_read(("here < 1", A), ("here = 2", B), ("1 < here", C), ("1 = here", ("=", ONE, HERE)))

    def test_not(self):
        self.assert_read(
            ("not here < 1", ("not", A)), ("not not here < 1", ("not", ("not", A))), ("not [here < 1]", ("not", A)),
            ("not [not [here < 1]]", ("not", ("not", A))),
        )

    def test_several_in_a_row_from_the_left(self):
        self.assert_read(
            ("here < 1 and here = 2", ("and", A, B)), ("here < 1 or here = 2", ("or", A, B)),
            ("here < 1 and here = 2 and 1 < here", ("and", ("and", A, B), C)),
            ("here < 1 or here = 2 or 1 < here", ("or", ("or", A, B), C)),
            ("here < 1 or here = 2 or 1 < here or here < 1", ("or", ("or", ("or", A, B), C), A)),
        )

    def test_how_strongly_they_bind(self):
        self.assert_read(
            ("here < 1 or here = 2 and 1 < here", ("or", A, ("and", B, C))),
            ("here < 1 and here = 2 or 1 < here", ("or", ("and", A, B), C)),
            ("not here < 1 and here = 2", ("and", ("not", A), B)),
            ("here < 1 and not here = 2", ("and", A, ("not", B))),
            ("not here < 1 or here = 2", ("or", ("not", A), B)),
            ("here < 1 or not not here = 2", ("or", A, ("not", ("not", B)))),
            ("here < 1 and here = 2 or 1 < here and here < 1", ("or", ("and", A, B), ("and", C, A))),
            ("here < 1 or here = 2 and not 1 < here or here < 1", ("or", ("or", A, ("and", B, ("not", C))), A)),
        )

    def test_square_brackets(self):
        self.assert_read(
            ("[here < 1]", A), ("[[here < 1]]", A), ("[not here < 1]", ("not", A)),
            ("here < 1 and [here = 2 and 1 < here]", ("and", A, ("and", B, C))),
            ("here < 1 or [here = 2 or 1 < here]", ("or", A, ("or", B, C))),
            ("[here < 1 or here = 2] and 1 < here", ("and", ("or", A, B), C)),
            ("here < 1 and [here = 2 or 1 < here]", ("and", A, ("or", B, C))),
            ("not [here < 1 and here = 2]", ("not", ("and", A, B))),
            ("not [here < 1 or here = 2] and 1 < here", ("and", ("not", ("or", A, B)), C)),
            ("[here < 1] and [here = 2]", ("and", A, B)), ("[[here < 1] or [[here = 2]]]", ("or", A, B)),
            ("[(here) < (1)]", A), ("[here < 1 and here = 2] or [1 < here]", ("or", ("and", A, B), C)),
        )

    def test_made_by_chance_and_read_back(self):
        chance = random.Random(14)
        read = 0
        for turn in range(3000):
            condition = some_condition(chance, 3)
            text = bracketed_text(condition)
            if count_parts(condition) <= 30 and most_brackets(text) <= 16:
                read += 1
                self.assertEqual(read_condition(text), condition)
            else:
                self.assert_refused(text)
        self.assertGreater(read, 1000)
        self.assertGreater(3000 - read, 100)


class Blanks(Checked):
    def test_strewn(self):
        self.assert_read(
            ("  here  <  1  ", A), (" [ here<1 ] ", A), ("here <1", A), ("here< 1", A),
            ("  not   [  here  <  1  and  here  =  2  ]  ", ("not", ("and", A, B))),
            ("abs  (  here  )  <  1", ("<", ("abs", HERE), ONE)), ("back    3 < 1", ("<", ("back", 3), ONE)),
            ("at   sea   <   1", ("<", ("at", "sea"), ONE)), (" " * 3000 + "here < 1" + " " * 900, A),
        )

    def test_none_about_signs(self):
        self.assert_read(
            ("here<1", A), ("here<1 and here=2", ("and", A, B)), ("not[here<1]or[here=2]", ("or", ("not", A), B)),
            ("here+1-2<1", ("<", ("-", ("+", HERE, ONE), TWO), ONE)), ("2*here<1", ("<", ("times", (2, 1), HERE), ONE)),
            ("1/2*(here)<1", ("<", ("times", (1, 2), HERE), ONE)), ("abs(here)<1", ("<", ("abs", HERE), ONE)),
            ("[here<1]and not[here=2]", ("and", A, ("not", B))), ("back 3-1<1", ("<", ("-", ("back", 3), ONE), ONE)),
            ("at sea<1", ("<", ("at", "sea"), ONE)), ("(here)<(1)", A), ("here -1<1", ("<", ("-", HERE, ONE), ONE)),
        )

    def test_tabs_and_line_feeds_are_none(self):
        self.assert_refused("here\t< 1", "\there < 1", "here < 1\t", "here\n< 1", "\nhere < 1", "here < 1\n")
        self.assert_refused("here < 1\r")
        self.assert_refused("here\u00a0< 1", "\t", "\n", "here < 1 and\nhere = 2")


class Bounds(Checked):
    def test_thirty_parts(self):
        for text, parts in (
            ("not " + "here + " * 13 + "here < 1", 30), ("here + " * 14 + "here < 1", 31),
            ("here - " * 13 + "here < abs(1)", 30), ("2 * here + " * 8 + "2 * here - here < 1", 30),
            ("not " * 27 + "here < 1", 30), ("not " * 28 + "here < 1", 31), ("not " * 29 + "here < 1", 32),
            ("here < 1 and " * 6 + "not not not here < 1", 30), ("here < 1 and " * 7 + "here < 1", 31),
            ("here < 1 or " * 6 + "not not not here < 1", 30), ("here < 1 or " * 7 + "here < 1", 31),
            ("2 * (" * 14 + "abs(here)" + ")" * 14 + " < 1 and here = abs(1) or 2 * 3 = 4 * abs(5)", 30),
            ("at sea - " * 12 + "until 1 < back 1 - ago 1", 29),
            ("at sea - " * 12 + "until 1 < back 1 - 2 * ago 1", 30),
            ("at sea - " * 12 + "until 1 < back 1 - ago 1 + on 1", 31), ("here < 1 + " + "2 * 1/2 + " * 9 + "1/2", 32),
        ):
            with self.subTest(text=text):
                if parts > 30:
                    self.assert_refused(text)
                else:
                    self.assertEqual(count_parts(read_condition(text)), parts)

    def test_brackets_are_no_parts(self):
        text = "not " + "((((here)))) + " * 13 + "((here)) < (((1)))"
        self.assertEqual(count_parts(read_condition(text)), 30)
        self.assert_read((text, read_condition("not " + "here + " * 13 + "here < 1")))

    def test_sixteen_brackets(self):
        absolute = HERE
        for step in range(16):
            absolute = ("abs", absolute)
        self.assert_read(
            ("(" * 16 + "here" + ")" * 16 + " < 1", A), ("here < " + "(" * 16 + "1" + ")" * 16, A),
            ("[" * 16 + "here < 1" + "]" * 16, A), ("[" * 8 + "(" * 8 + "here" + ")" * 8 + " < 1" + "]" * 8, A),
            ("[" * 15 + "(here) < (1)" + "]" * 15, A), ("abs(" * 16 + "here" + ")" * 16 + " < 1", ("<", absolute, ONE)),
        )

    def test_closed_brackets_are_open_no_longer(self):
        here = "(" * 16 + "here" + ")" * 16
        self.assert_read(
            (here + " < " + "(" * 16 + "1" + ")" * 16, A),
            (here + " - " + here + " < 1", ("<", ("-", HERE, HERE), ONE)),
            ("[" * 16 + "here < 1" + "]" * 16 + " and " + "[" * 16 + "here = 2" + "]" * 16, ("and", A, B)),
        )

    def test_seventeen_brackets(self):
        self.assert_refused(
            "(" * 17 + "here" + ")" * 17 + " < 1", "here < " + "(" * 17 + "1" + ")" * 17,
            "[" * 17 + "here < 1" + "]" * 17, "[" * 8 + "(" * 9 + "here" + ")" * 9 + " < 1" + "]" * 8,
            "abs(" * 17 + "here" + ")" * 17 + " < 1", "[" * 16 + "(here) < 1" + "]" * 16,
            "[" * 16 + "here < (1)" + "]" * 16, "[" * 16 + "abs(here) < 1" + "]" * 16,
            "(" * 16 + "abs(here)" + ")" * 16 + " < 1",
        )

    def test_seventeen_brackets_behind_closed_ones(self):
        deep = "(" * 17 + "here" + ")" * 17
        self.assert_refused("(here) < " + deep, "abs(here) + " + deep + " < 1", "[here < 1] and " + deep + " < 1")
        self.assert_refused("[here < 1] or " + "[" * 17 + "here < 1" + "]" * 17)

    def test_long_texts(self):
        self.assert_refused(
            "(" * 4000, "[" * 4000, "not " * 1000, "not " * 998 + "here < 1", "abs(" * 1000, "here + " * 570 + "1 < 1",
            "here < 1 and " * 300 + "here < 1", "here < 1 or " * 300 + "here < 1", "2 * (" * 800, "2 * " * 1000,
            "a" * 4000, "9" * 4000 + " < 1", "1/" * 2000, "(" * 1990 + "here" + ")" * 1990 + " < 1", "<" * 4000,
            "not" * 1000,
        )


class Refused(Checked):
    def test_an_empty_text(self):
        self.assert_refused("", " ", "    ")

    def test_a_side_is_missing(self):
        self.assert_refused("here <", "< 1", "<", "=", "here =", "= 1", "here < and 1 < 2", "here + < 1", "here < 1 +")
        self.assert_refused("here < 1 and", "and here < 1", "or", "here < 1 or", "or here < 1", "not")
        self.assert_refused("here < 1 and not")
        self.assert_refused("here < 1 and or here < 1", "here < 1 or and here < 1", "here < 1 and and here < 1")
        self.assert_refused("[]", "()")
        self.assert_refused("[] and here < 1", "() < 1", "abs() < 1", "2 * < 1", "* here < 1", "here < 2 *")
        self.assert_refused("here < * 1")

    def test_a_sign_ahead(self):
        self.assert_no_terms("-1", "- 1", "+1", "-here", "-(here)", "- 1/2", "2 * -1", "2 * - here")
        self.assert_no_terms("here - - 1", "here + -1")

    def test_a_term_where_a_condition_belongs(self):
        self.assert_refused("here", "1", "here + 1", "(here)", "abs(here)", "[here]", "not here", "here and here < 1")
        self.assert_refused("here < 1 or here", "not [here] < 1", "[here + 1]", "2 * here", "at sea", "back 1")
        self.assert_refused("here here < 1")

    def test_a_condition_where_a_term_belongs(self):
        self.assert_refused("(here < 1)", "(here < 1) < 1", "abs(here < 1) < 1", "2 * (here < 1) < 1")
        self.assert_refused("here + (here < 1) < 1")
        self.assert_refused("here < not 1", "here < not here < 1", "(not here) < 1", "(here < 1 and here < 1)")
        self.assert_refused("(here < 1) and here < 1")
        self.assert_refused("here + not here < 1", "here < 1 = not here < 1", "here < [1 < 2]", "abs(not here < 1) < 1")

    def test_comparisons_in_a_row(self):
        self.assert_refused("here < 1 < 2", "here = 1 = 2", "here < 1 = 2", "here = 1 < 2", "[here < 1] < 2")
        self.assert_refused("1 < [here < 2]")
        self.assert_refused("here << 1", "here == 1", "here <= 1", "here =< 1", "here > 1", "here >= 1")
        self.assert_refused("here != 1", "here <> 1")

    def test_brackets_of_the_wrong_sort(self):
        self.assert_refused("[here] < 1", "here < [1]", "abs[here] < 1", "2 * [here] < 1", "{here} < 1")
        self.assert_refused("{here < 1}", "abs{here} < 1")
        self.assert_refused("not (here < 1)", "(here < 1) or here < 1", "here + [1] < 2", "<here> < 1")

    def test_brackets_that_do_not_fit(self):
        self.assert_refused("(here < 1", "here) < 1", "[here < 1", "here < 1]", "(here] < 1", "[here < 1)")
        self.assert_refused("((here) < 1", "(here)) < 1")
        self.assert_refused("[(here < 1])", "([here) < 1]", ")here( < 1", "]here < 1[", "abs(here < 1")
        self.assert_refused("abs(here]) < 1", "here < 1)")
        self.assert_refused("[[here < 1]", "[here < 1]]", "here < (1", "here < 1 and [here = 2", "abs here < 1")
        self.assert_refused("abs < 1", "abs 1 < 2")
        self.assert_refused("(here)(here) < 1", "[here < 1][here < 1]", "[here < 1] here < 1", "here (1) < 2")
        self.assert_refused("2 (here) < 1")

    def test_places(self):
        for kind in ("back", "on", "ago", "until"):
            for place in (
                "0", "10", "01", "00", "09", "11", "99", "1/2", "2/1", "1/1", "x", "here", "", "-1", "- 1", "(1)", "+1",
            ):
                self.assert_no_terms(kind + " " + place)
            self.assert_no_terms(kind + "1", kind + "(1)", kind + " 1 2", kind + " 9" + "9" * 70)
            self.assert_no_terms(kind + " " + kind + " 1")

    def test_masts(self):
        self.assert_no_terms(*["at " + word for word in KEY_WORDS])
        self.assert_no_terms(
            "at mountains", "at abcdefghi", "at", "at 1", "at hill1", "at 1hill", "at Hill", "at hi/ll", "at (hill)",
            "at at", "at hill hill", "athill", "at -hill", "at hi ll", "at _", "at h\u00fcgel", "at " + "a" * 4000,
        )

    def test_fractions(self):
        bad = (
            "2/4", "1/1", "0/1", "0/5", "3/3", "3/0", "0/0", "01", "00", "01/2", "1/02", "1/", "/2", "/", "//", "1//2",
            "1/2/3", "1000000000", "1/1000000", "999999999/1000000", "1000000000/999999", "1" + "0" * 60, "9" * 61,
            "9" * 70 + "/2", "1.5", "1,5", "1 / 2", "1 /2", "1/ 2", "1e3", "1_0", "0x1", "1 2", "\u0661", "\u00bd",
        )
        self.assert_no_terms(*bad)
        self.assert_no_terms(*[fraction + " * here" for fraction in bad])

    def test_products(self):
        self.assert_no_terms(
            "here * 2", "here * here", "(2) * here", "2 * 3 * here", "2 * 3 * 4", "2 here", "2(here)", "2 * 2 + * 3",
            "2 ** here", "back 2 * here", "(1 + 1) * here", "abs(2) * here", "2 * here * 3", "at sea * 2",
            "2 * * here", "2 / here", "here / 2",
        )

    def test_words_run_together(self):
        self.assert_refused("herehere < 1", "nothere < 1", "here < 1and here = 2", "here < 1 andhere = 2")
        self.assert_refused("here < 1or here = 2")
        self.assert_refused("not2 < here", "notnot here < 1", "here1 < 1", "1here < 1", "here < 1/2and 1 < 2")
        self.assert_refused("back1 < 1", "2back 1 < 1")
        self.assert_refused("here < backs 1", "her < 1", "hill < 1", "at sea1 < 1", "absolute(here) < 1")
        self.assert_refused("h ere < 1", "here < 1 an d 1 < 2")

    def test_words_that_belong_elsewhere(self):
        self.assert_refused("mark < 1", "fill < 1", "mark a: here < 1", "fill 1 2", "num 1 < 2")
        self.assert_refused("here < 1 xor here < 2", "true", "here is 1")

    def test_signs_that_belong_to_none(self):
        for sign in "!\"#$%&',.:;>?@\\^_`{|}~AZ":
            self.assert_refused("here < 1" + sign, sign + "here < 1", "here " + sign + " < 1")
            self.assert_refused("here < " + sign + " 1", "he" + sign + "re < 1")
        self.assert_refused("Here < 1", "HERE < 1", "here < 1 AND here < 2", "NOT here < 1")
        self.assert_refused("here < 1 && here < 2", "here < 1;")


if __name__ == "__main__":
    unittest.main()
