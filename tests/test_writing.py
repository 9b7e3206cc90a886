import copy
import random
import unittest

from some_conditions import FRACTIONS, MASTS, bracketed_text, count_parts, fraction_text, some_condition
from weather.errors import NoText
from weather.reading import read_condition
from weather.writing import show_condition

HERE = ("here",)
ONE = ("num", (1, 1))
TWO = ("num", (2, 1))
BACK = ("back", 1)
A = ("<", HERE, ONE)
B = ("=", HERE, TWO)
C = ("<", ONE, HERE)


def bracket_pairs(text):
    """The places of each bracket and its partner, but for those of abs, which are always needed."""
    pairs = []
    begun = []
    for place, sign in enumerate(text):
        if sign in "([":
            begun.append(place)
        if sign in ")]":
            start = begun.pop()
            if not text[:start].endswith("abs"):
                pairs.append((start, place))
    return pairs


def without_pair(text, pair):
    return text[:pair[0]] + text[pair[0] + 1:pair[1]] + text[pair[1] + 1:]


def depth_of(text):
    depth = 0
    deepest = 0
    for sign in text:
        depth += (sign in "([") - (sign in ")]")
        deepest = max(deepest, depth)
    return deepest


def read_or_none(text):
    try:
        return read_condition(text)
    except NoText:
        return None


class Written(unittest.TestCase):
    def assert_text(self, condition, text):
        with self.subTest(text=text):
            ahead = copy.deepcopy(condition)
            for turn in range(2):
                told = show_condition(condition)
                self.assertEqual(told, text)
                self.assertIs(type(told), str)
            self.assertEqual(condition, ahead)
            self.assertEqual(read_condition(text), condition)


class Terms(Written):
    def assert_term(self, term, text):
        """As each side of each comparison, and within abs, where a sum stands without brackets."""
        self.assert_text(("<", term, ONE), text + " < 1")
        self.assert_text(("=", term, ONE), text + " = 1")
        self.assert_text(("<", ONE, term), "1 < " + text)
        self.assert_text(("=", term, term), text + " = " + text)
        self.assert_text(("<", ("abs", term), ONE), "abs(" + text + ") < 1")

    def test_fractions_with_and_without_a_bottom(self):
        for one in ((0, 1), (1, 1), (10, 1), (999999999, 1), (1, 2), (22, 7), (1, 999999), (999999998, 999999)):
            self.assert_term(("num", one), fraction_text(one))
        self.assert_term(("num", (3, 10)), "3/10")

    def test_here(self):
        self.assert_term(HERE, "here")

    def test_places(self):
        for word in ("back", "on", "ago", "until"):
            for place in range(1, 10):
                self.assert_term((word, place), word + " " + str(place))

    def test_at_a_mast(self):
        for mast in MASTS:
            self.assert_term(("at", mast), "at " + mast)

    def test_sums_from_the_left(self):
        self.assert_term(("+", HERE, ONE), "here + 1")
        self.assert_term(("-", HERE, ONE), "here - 1")
        for first in "+-":
            for second in "+-":
                term = (second, (first, HERE, BACK), TWO)
                self.assert_term(term, "here " + first + " back 1 " + second + " 2")
        self.assert_term(("-", ("+", ("-", HERE, ONE), TWO), BACK), "here - 1 + 2 - back 1")

    def test_sums_on_the_right(self):
        for first in "+-":
            for second in "+-":
                term = (first, HERE, (second, BACK, TWO))
                self.assert_term(term, "here " + first + " (back 1 " + second + " 2)")
        self.assert_term(("-", HERE, ("-", ONE, ("-", TWO, BACK))), "here - (1 - (2 - back 1))")
        self.assert_term(("-", HERE, ("-", ("-", ONE, TWO), BACK)), "here - (1 - 2 - back 1)")
        self.assert_term(("+", ("+", HERE, ONE), ("+", TWO, BACK)), "here + 1 + (2 + back 1)")
        self.assert_term(("-", ("-", HERE, ("-", ONE, TWO)), BACK), "here - (1 - 2) - back 1")

    def test_products_of_single_things(self):
        for term, text in (
            (HERE, "here"), (TWO, "2"), (("num", (1, 2)), "1/2"), (("on", 3), "on 3"), (("ago", 9), "ago 9"),
            (("at", "sea"), "at sea"), (("abs", HERE), "abs(here)"), (("abs", ("-", HERE, ONE)), "abs(here - 1)"),
        ):
            self.assert_term(("times", (3, 1), term), "3 * " + text)
            self.assert_term(("times", (0, 1), term), "0 * " + text)
            self.assert_term(("times", (3, 2), term), "3/2 * " + text)

    def test_products_of_sums_and_of_products(self):
        self.assert_term(("times", (3, 1), ("+", HERE, ONE)), "3 * (here + 1)")
        self.assert_term(("times", (3, 1), ("-", HERE, ONE)), "3 * (here - 1)")
        self.assert_term(("times", (3, 1), ("times", (1, 2), HERE)), "3 * (1/2 * here)")
        self.assert_term(
            ("times", (3, 1), ("times", (1, 2), ("times", (4, 1), HERE))), "3 * (1/2 * (4 * here))",
        )
        self.assert_term(("times", (3, 1), ("+", HERE, ("-", ONE, TWO))), "3 * (here + (1 - 2))")

    def test_products_within_sums(self):
        product = ("times", (3, 1), HERE)
        self.assert_term(("+", product, ONE), "3 * here + 1")
        self.assert_term(("+", ONE, product), "1 + 3 * here")
        self.assert_term(("-", product, product), "3 * here - 3 * here")
        self.assert_term(("-", ("-", ONE, product), TWO), "1 - 3 * here - 2")
        self.assert_term(("-", ONE, ("-", product, TWO)), "1 - (3 * here - 2)")
        self.assert_term(("-", ONE, ("times", (3, 1), ("-", HERE, TWO))), "1 - 3 * (here - 2)")

    def test_abs(self):
        self.assert_term(("abs", HERE), "abs(here)")
        self.assert_term(("abs", ("abs", HERE)), "abs(abs(here))")
        self.assert_term(("abs", ("abs", ("-", ("abs", HERE), ONE))), "abs(abs(abs(here) - 1))")
        self.assert_term(("-", ONE, ("abs", ("-", HERE, BACK))), "1 - abs(here - back 1)")
        self.assert_term(("abs", ("-", HERE, ("-", BACK, ONE))), "abs(here - (back 1 - 1))")
        self.assert_term(("abs", ("times", (2, 1), HERE)), "abs(2 * here)")


class Conditions(Written):
    def test_comparisons(self):
        self.assert_text(A, "here < 1")
        self.assert_text(B, "here = 2")
        self.assert_text(("<", ("+", HERE, ONE), ("-", HERE, ONE)), "here + 1 < here - 1")

    def test_not(self):
        self.assert_text(("not", A), "not here < 1")
        self.assert_text(("not", ("not", A)), "not not here < 1")
        self.assert_text(("not", ("not", ("not", B))), "not not not here = 2")
        self.assert_text(("not", ("and", A, B)), "not [here < 1 and here = 2]")
        self.assert_text(("not", ("or", A, B)), "not [here < 1 or here = 2]")
        self.assert_text(("not", ("not", ("or", A, B))), "not not [here < 1 or here = 2]")
        self.assert_text(("not", ("and", ("not", A), ("not", B))), "not [not here < 1 and not here = 2]")

    def test_within_and(self):
        self.assert_text(("and", A, B), "here < 1 and here = 2")
        self.assert_text(("and", ("not", A), B), "not here < 1 and here = 2")
        self.assert_text(("and", A, ("not", B)), "here < 1 and not here = 2")
        self.assert_text(("and", ("and", A, B), C), "here < 1 and here = 2 and 1 < here")
        self.assert_text(("and", A, ("and", B, C)), "here < 1 and [here = 2 and 1 < here]")
        self.assert_text(("and", ("or", A, B), C), "[here < 1 or here = 2] and 1 < here")
        self.assert_text(("and", A, ("or", B, C)), "here < 1 and [here = 2 or 1 < here]")

    def test_within_or(self):
        self.assert_text(("or", A, B), "here < 1 or here = 2")
        self.assert_text(("or", ("not", A), B), "not here < 1 or here = 2")
        self.assert_text(("or", A, ("not", B)), "here < 1 or not here = 2")
        self.assert_text(("or", ("or", A, B), C), "here < 1 or here = 2 or 1 < here")
        self.assert_text(("or", A, ("or", B, C)), "here < 1 or [here = 2 or 1 < here]")
        self.assert_text(("or", ("and", A, B), C), "here < 1 and here = 2 or 1 < here")
        self.assert_text(("or", A, ("and", B, C)), "here < 1 or here = 2 and 1 < here")

    def test_deeper(self):
        self.assert_text(
            ("or", ("and", A, ("and", B, C)), ("and", ("or", A, B), C)),
            "here < 1 and [here = 2 and 1 < here] or [here < 1 or here = 2] and 1 < here",
        )
        self.assert_text(
            ("and", ("not", ("or", A, B)), ("not", ("and", B, C))),
            "not [here < 1 or here = 2] and not [here = 2 and 1 < here]",
        )
        self.assert_text(
            ("or", A, ("or", ("or", A, B), ("or", B, C))),
            "here < 1 or [here < 1 or here = 2 or [here = 2 or 1 < here]]",
        )
        self.assert_text(
            ("and", ("and", A, B), ("and", ("and", A, B), C)),
            "here < 1 and here = 2 and [here < 1 and here = 2 and 1 < here]",
        )

    def test_the_documents_signs_together(self):
        leap = ("<", ("num", (5, 1)), ("abs", ("-", HERE, BACK)))
        near = ("not", ("or", ("<", ("ago", 1), ("num", (60, 1))), ("=", ("at", "sea"), ("times", (1, 2), HERE))))
        self.assert_text(
            ("and", leap, near), "5 < abs(here - back 1) and not [ago 1 < 60 or at sea = 1/2 * here]",
        )

    def test_thirty_parts(self):
        condition = A
        for turn in range(27):
            condition = ("not", condition)
        self.assert_text(condition, "not " * 27 + "here < 1")
        row = HERE
        for turn in range(13):
            row = ("-", row, ONE)
        self.assert_text(("=", row, HERE), "here" + " - 1" * 13 + " = here")

    def test_sixteen_brackets(self):
        deep = HERE
        for turn in range(16):
            deep = ("abs", deep)
        self.assert_text(("<", deep, ONE), "abs(" * 16 + "here" + ")" * 16 + " < 1")

    def test_more_brackets_than_are_read(self):
        deep = HERE
        for turn in range(27):
            deep = ("abs", deep)
        text = show_condition(("<", deep, ONE))
        self.assertEqual(text, "abs(" * 27 + "here" + ")" * 27 + " < 1")
        self.assertIsNone(read_or_none(text))


class Many(unittest.TestCase):
    def conditions(self):
        chance = random.Random(13)
        found = []
        while len(found) < 3000:
            condition = some_condition(chance, chance.randrange(5))
            if count_parts(condition) <= 30:
                found.append(condition)
        return found

    def test_read_to_the_same_condition_with_the_fewest_brackets(self):
        removed = 0
        for condition in self.conditions():
            text = show_condition(condition)
            self.assertLessEqual(depth_of(text), 16)
            self.assertEqual(read_condition(text), condition, text)
            for pair in bracket_pairs(text):
                removed += 1
                self.assertNotEqual(read_or_none(without_pair(text, pair)), condition, text)
        self.assertGreater(removed, 1000)

    def test_no_more_signs_than_with_all_brackets(self):
        for condition in self.conditions():
            bare = [text.replace(" ", "") for text in (show_condition(condition), bracketed_text(condition))]
            for sign in "()[]":
                bare = [text.replace(sign, "") for text in bare]
            self.assertEqual(bare[0], bare[1])

    def test_blanks(self):
        for condition in self.conditions():
            text = show_condition(condition)
            self.assertNotIn("  ", text)
            self.assertRegex(text, r"\A[^ ].*[^ ]\Z")
            self.assertNotRegex(text, r"[(\[] | [)\]]|abs |[^ ][+*<=\-]|[+*<=\-][^ ]| /|/ ")
            self.assertNotRegex(text, r"[\])](and|or)\b|\b(and|or|not)[\[(]")

    def test_fractions_of_all_kinds_came(self):
        texts = " ".join([show_condition(condition) for condition in self.conditions()])
        for one in FRACTIONS:
            self.assertIn(" " + fraction_text(one) + " ", texts)


if __name__ == "__main__":
    unittest.main()
