import decimal
import fractions
import itertools
import unittest

from weather.errors import NoFraction, NoText
from weather.fractions import fraction, minus, over, plus, read_fraction, show_fraction, times, under

# A prime, so that nothing but its own multiples shares a divisor with it.
PRIME = 2 ** 521 - 1
THOUSAND_FIGURES = 10 ** 1000 - 1
NO_WHOLE_NUMBERS = (
    True, False, None, "1", "", "1/2", 1.0, 0.5, float("nan"), 1j, b"1", [1], [], (1,), (1, 2), {1: 1}, {1},
    decimal.Decimal(1), fractions.Fraction(1), object(), int, len,
)
SOME = [fraction(top, bottom) for top in range(-7, 8) for bottom in range(1, 8)]
LARGE = [
    fraction(top, bottom)
    for top in (PRIME, -THOUSAND_FIGURES, 10 ** 999, 3)
    for bottom in (1, THOUSAND_FIGURES - 1, PRIME * 6)
]


def as_tuple(one):
    return (one.numerator, one.denominator)


def by_python(one):
    return fractions.Fraction(one[0], one[1])


class Checked(unittest.TestCase):
    def assert_fraction(self, one, expected):
        self.assertEqual(one, expected)
        self.assertIs(type(one), tuple)
        self.assertEqual([type(part) for part in one], [int, int])


class Made(Checked):
    def test_lowest_terms_for_every_mix_of_signs(self):
        self.assert_fraction(fraction(6, 4), (3, 2))
        self.assert_fraction(fraction(-6, 4), (-3, 2))
        self.assert_fraction(fraction(6, -4), (-3, 2))
        self.assert_fraction(fraction(-6, -4), (3, 2))

    def test_lowest_terms_as_they_stand(self):
        for one in ((1, 1), (1, 2), (-1, 2), (5, 3), (-7, 1), (0, 1)):
            self.assert_fraction(fraction(one[0], one[1]), one)

    def test_one_divides_the_other(self):
        self.assert_fraction(fraction(12, 4), (3, 1))
        self.assert_fraction(fraction(4, 12), (1, 3))
        self.assert_fraction(fraction(5, 5), (1, 1))
        self.assert_fraction(fraction(5, -5), (-1, 1))

    def test_a_top_of_nought(self):
        for bottom in (1, -1, 2, -2, 1440, THOUSAND_FIGURES, -THOUSAND_FIGURES):
            self.assert_fraction(fraction(0, bottom), (0, 1))

    def test_all_small_ones(self):
        for top, bottom in itertools.product(range(-30, 31), range(-30, 31)):
            if bottom != 0:
                self.assert_fraction(fraction(top, bottom), as_tuple(fractions.Fraction(top, bottom)))

    def test_large_ones(self):
        for sign, other in itertools.product((1, -1), (1, -1)):
            self.assert_fraction(fraction(sign * PRIME * 6, other * PRIME * 4), (sign * other * 3, 2))
            top = sign * THOUSAND_FIGURES
            bottom = other * (10 ** 999 + 8)
            self.assert_fraction(fraction(top, bottom), as_tuple(fractions.Fraction(top, bottom)))
        self.assert_fraction(fraction(THOUSAND_FIGURES, THOUSAND_FIGURES), (1, 1))
        self.assert_fraction(fraction(THOUSAND_FIGURES, THOUSAND_FIGURES - 1), (THOUSAND_FIGURES, THOUSAND_FIGURES - 1))

    def test_a_bottom_of_nought_is_refused(self):
        for top in (0, 1, -1, THOUSAND_FIGURES):
            with self.assertRaises(NoFraction):
                fraction(top, 0)

    def test_other_kinds_are_refused(self):
        for thing in NO_WHOLE_NUMBERS:
            for top, bottom in ((thing, 1), (1, thing), (thing, thing), (thing, 0), (0, thing)):
                with self.subTest(top=repr(top), bottom=repr(bottom)):
                    with self.assertRaises(NoFraction):
                        fraction(top, bottom)

    def test_a_refused_list_is_left_as_it_was(self):
        handed = [1, [2]]
        with self.assertRaises(NoFraction):
            fraction(handed, 1)
        self.assertEqual(handed, [1, [2]])

    def test_asked_again_the_same_is_told(self):
        self.assertEqual(fraction(10, -4), fraction(10, -4))


class Reckoned(Checked):
    def test_sums(self):
        self.assert_fraction(plus((1, 2), (1, 3)), (5, 6))
        self.assert_fraction(plus((1, 2), (1, 2)), (1, 1))
        self.assert_fraction(plus((1, 6), (1, 3)), (1, 2))
        self.assert_fraction(plus((1, 2), (-1, 2)), (0, 1))
        self.assert_fraction(plus((0, 1), (-3, 4)), (-3, 4))

    def test_differences(self):
        self.assert_fraction(minus((1, 2), (1, 3)), (1, 6))
        self.assert_fraction(minus((1, 3), (1, 2)), (-1, 6))
        self.assert_fraction(minus((7, 3), (7, 3)), (0, 1))
        self.assert_fraction(minus((0, 1), (-3, 4)), (3, 4))

    def test_products(self):
        self.assert_fraction(times((2, 3), (3, 4)), (1, 2))
        self.assert_fraction(times((-2, 3), (3, 2)), (-1, 1))
        self.assert_fraction(times((-2, 3), (-1, 5)), (2, 15))
        self.assert_fraction(times((0, 1), (-5, 7)), (0, 1))

    def test_quotients(self):
        self.assert_fraction(over((2, 3), (4, 3)), (1, 2))
        self.assert_fraction(over((1, 2), (-1, 3)), (-3, 2))
        self.assert_fraction(over((-1, 2), (-1, 3)), (3, 2))
        self.assert_fraction(over((0, 1), (-5, 7)), (0, 1))

    def test_a_quotient_by_nought_is_refused(self):
        for one in ((1, 1), (0, 1), (-5, 7), (THOUSAND_FIGURES, 2)):
            with self.assertRaises(NoFraction):
                over(one, (0, 1))

    def test_less(self):
        self.assertIs(under((1, 3), (1, 2)), True)
        self.assertIs(under((1, 2), (1, 3)), False)
        self.assertIs(under((1, 2), (1, 2)), False)
        self.assertIs(under((-1, 2), (-1, 3)), True)
        self.assertIs(under((-1, 2), (0, 1)), True)
        self.assertIs(under((0, 1), (-1, 2)), False)
        self.assertIs(under((0, 1), (0, 1)), False)

    def test_large_neighbours(self):
        less = (THOUSAND_FIGURES - 1, THOUSAND_FIGURES)
        greater = (THOUSAND_FIGURES, THOUSAND_FIGURES + 1)
        self.assertIs(under(less, greater), True)
        self.assertIs(under(greater, less), False)
        self.assert_fraction(minus(greater, less), (1, THOUSAND_FIGURES * (THOUSAND_FIGURES + 1)))

    def assert_as_python(self, one, other):
        first = by_python(one)
        second = by_python(other)
        self.assert_fraction(plus(one, other), as_tuple(first + second))
        self.assert_fraction(minus(one, other), as_tuple(first - second))
        self.assert_fraction(times(one, other), as_tuple(first * second))
        self.assertIs(under(one, other), first < second)
        if second != 0:
            self.assert_fraction(over(one, other), as_tuple(first / second))

    def test_all_small_ones(self):
        for one, other in itertools.product(SOME, SOME):
            self.assert_as_python(one, other)

    def test_large_ones(self):
        for one, other in itertools.product(LARGE, LARGE + [(0, 1), (-1, 2)]):
            self.assert_as_python(one, other)

    def test_asked_again_the_same_is_told_and_nothing_is_changed(self):
        one = (1, 2)
        other = (-3, 4)
        for reckon in (plus, minus, times, over, under):
            self.assertEqual(reckon(one, other), reckon(one, other))
        self.assertEqual((one, other), ((1, 2), (-3, 4)))


TEXTS = (
    ((0, 1), "0"), ((1, 1), "1"), ((-1, 1), "-1"), ((10, 1), "10"), ((-305, 1), "-305"), ((1, 2), "1/2"),
    ((-1, 2), "-1/2"), ((7, 10), "7/10"), ((-35, 12), "-35/12"), ((12, 35), "12/35"),
)
SIXTY = 10 ** 60 - 1


class Written(Checked):
    def test_written(self):
        for one, text in TEXTS:
            self.assertEqual(show_fraction(one), text)
            self.assertEqual(show_fraction(one), text)

    def test_a_thousand_figures_are_written(self):
        nines = "9" * 1000
        self.assertEqual(show_fraction((THOUSAND_FIGURES, 1)), nines)
        self.assertEqual(show_fraction((-THOUSAND_FIGURES, 2)), "-" + nines + "/2")
        self.assertEqual(show_fraction((-1, THOUSAND_FIGURES)), "-1/" + nines)

    def test_read(self):
        for one, text in TEXTS:
            self.assert_fraction(read_fraction(text), one)
            self.assert_fraction(read_fraction(text), one)

    def test_what_is_written_is_read_to_the_same(self):
        for one in SOME:
            self.assert_fraction(read_fraction(show_fraction(one)), one)

    def test_sixty_figures_are_taken(self):
        for one in ((SIXTY, 1), (-SIXTY, 1), (SIXTY, SIXTY - 1), (-SIXTY, SIXTY - 1), (1, SIXTY), (-1, SIXTY)):
            self.assert_fraction(read_fraction(show_fraction(one)), one)
        self.assert_fraction(read_fraction("9" * 60), (SIXTY, 1))


class Refused(unittest.TestCase):
    def assert_refused(self, texts):
        for text in texts:
            with self.subTest(text=text):
                with self.assertRaises(NoText) as caught:
                    read_fraction(text)
                self.assertEqual(caught.exception.row, 1)

    def test_no_lowest_terms(self):
        self.assert_refused(("2/4", "-2/4", "4/2", "6/9", "3/3", "-3/3", "0/2", "0/7", "-0/7"))

    def test_a_bottom_of_one_or_nought(self):
        self.assert_refused(("1/1", "-1/1", "0/1", "5/1", "3/0", "-3/0", "0/0", "-0/0"))

    def test_nought_with_a_sign(self):
        self.assert_refused(("-0", "+0", "--0", "-0/1"))

    def test_more_than_sixty_figures(self):
        nines = "9" * 61
        self.assert_refused((nines, "-" + nines, nines + "/2", "-" + nines + "/2", "1/" + nines, "-1/" + nines))
        self.assert_refused(("1" + "0" * 60, "1/1" + "0" * 60, "7" * 4000, "7" * 5000, "1/" + "7" * 5000))

    def test_a_nought_ahead(self):
        self.assert_refused(("00", "01", "-01", "01/2", "1/02", "-1/02", "1/00", "00/1", "0" * 60, "0" * 59 + "1"))

    def test_a_sign_where_none_belongs(self):
        self.assert_refused(("+1", "+1/2", "--1", "1-", "1/-2", "-1/-2", "1/+2", "-", "+", "-+1", "1-2", "1/2-"))

    def test_a_blank_where_none_belongs(self):
        self.assert_refused((" ", " 1", "1 ", "- 1", "1 /2", "1/ 2", " 1/2", "1/2 ", "1 2", "\t1", "1\n", "1/2\n"))

    def test_an_empty_text_or_part(self):
        self.assert_refused(("", "/", "1/", "/2", "-/2", "-1/", "1//2", "1/2/", "1/2/3", "/1/2"))

    def test_signs_that_are_no_figures(self):
        self.assert_refused(("x", "1x", "x1", "1/x", "1.5", "1,5", "1e3", "0x1", "1_0", "1/1_0", "here", "(1, 2)"))
        self.assert_refused(("\u00b2", "\u0661", "1/\u0662", "\uff11", "\u00bd", "\u22121", "1\u20442", "1\u00a0"))


if __name__ == "__main__":
    unittest.main()
