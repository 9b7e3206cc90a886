import copy
import fractions
import operator
import random
import unittest

from some_conditions import MASTS, some_condition, some_term
from weather.rules import asked_by, holds, worth

HERE = ("here",)
NOUGHT = ("num", (0, 1))
FOUND = {
    ("here",): (1000, (-7, 2)),
    ("back", 1): (990, (5, 1)),
    ("back", 3): (400, (-1, 3)),
    ("on", 1): (1060, (2, 3)),
    ("on", 9): (5000, (0, 1)),
    ("at", "sea"): (1000, (40, 1)),
    ("at", "hill"): (1000, (-7, 2)),
}


def as_tuple(one):
    return (one.numerator, one.denominator)


def yes(held):
    """A condition that holds, or one that doesn't."""
    return ("<", NOUGHT, ("num", (1, 1))) if held else ("<", NOUGHT, NOUGHT)


def worth_by_hand(term, found):
    kind = term[0]
    if kind == "num":
        return fractions.Fraction(*term[1])
    if kind == "ago":
        return fractions.Fraction(found[HERE][0] - found[("back", term[1])][0])
    if kind == "until":
        return fractions.Fraction(found[("on", term[1])][0] - found[HERE][0])
    if kind == "times":
        return fractions.Fraction(*term[1]) * worth_by_hand(term[2], found)
    if kind == "abs":
        return abs(worth_by_hand(term[1], found))
    if kind in ("+", "-"):
        reckon = operator.add if kind == "+" else operator.sub
        return reckon(worth_by_hand(term[1], found), worth_by_hand(term[2], found))
    return fractions.Fraction(*found[term][1])


def holds_by_hand(condition, found):
    kind = condition[0]
    if kind in ("<", "="):
        compare = operator.lt if kind == "<" else operator.eq
        return compare(worth_by_hand(condition[1], found), worth_by_hand(condition[2], found))
    held = [holds_by_hand(inner, found) for inner in condition[1:]]
    return {"not": lambda: not held[0], "and": lambda: all(held), "or": lambda: any(held)}[kind]()


def some_found(chance):
    """All that a condition may ask for, with few values, so that some are equal."""
    found = {HERE: (5000, some_value(chance))}
    for place in range(1, 10):
        found[("back", place)] = (5000 - 7 * place, some_value(chance))
        found[("on", place)] = (5000 + 11 * place, some_value(chance))
    for mast in MASTS:
        found[("at", mast)] = (5000, some_value(chance))
    return found


def some_value(chance):
    return as_tuple(fractions.Fraction(chance.randrange(-4, 5), chance.randrange(1, 4)))


class Asked(unittest.TestCase):
    def assert_asked(self, condition, expected):
        ahead = copy.deepcopy(condition)
        told = asked_by(condition)
        self.assertEqual(told, expected)
        self.assertIs(type(told), list)
        self.assertEqual([type(one) for one in told], [tuple] * len(told))
        told.append(("back", 9))
        told[0] = None
        self.assertEqual(asked_by(condition), expected)
        self.assertEqual(condition, ahead)

    def test_here_always(self):
        self.assert_asked(("<", NOUGHT, NOUGHT), [HERE])
        self.assert_asked(("<", HERE, NOUGHT), [HERE])
        self.assert_asked(("=", NOUGHT, ("abs", HERE)), [HERE])

    def test_each_alone(self):
        for place in range(1, 10):
            for kind, asked in (("back", "back"), ("ago", "back"), ("on", "on"), ("until", "on")):
                self.assert_asked(("<", (kind, place), NOUGHT), [HERE, (asked, place)])
                self.assert_asked(("=", NOUGHT, (kind, place)), [HERE, (asked, place)])
        self.assert_asked(("<", ("at", "sea"), NOUGHT), [HERE, ("at", "sea")])

    def test_masts_called_like_kinds_of_terms(self):
        self.assert_asked(("<", ("at", "num"), ("at", "times")), [HERE, ("at", "num"), ("at", "times")])

    def test_the_order(self):
        condition = (
            "and",
            ("<", ("+", ("at", "sea"), ("on", 2)), ("-", ("back", 9), ("at", "hill"))),
            ("=", ("+", ("on", 1), ("back", 2)), ("+", HERE, ("back", 1))),
        )
        self.assert_asked(condition, [
            HERE, ("back", 1), ("back", 2), ("back", 9), ("on", 1), ("on", 2), ("at", "hill"), ("at", "sea"),
        ])

    def test_the_same_several_times(self):
        back = ("<", ("back", 2), ("ago", 2))
        on = ("=", ("+", ("until", 3), ("on", 3)), ("-", ("on", 3), ("on", 1)))
        at = ("not", ("<", ("times", (2, 1), ("at", "sea")), ("abs", ("at", "sea"))))
        self.assert_asked(back, [HERE, ("back", 2)])
        self.assert_asked(on, [HERE, ("on", 1), ("on", 3)])
        self.assert_asked(at, [HERE, ("at", "sea")])
        everything = ("or", ("and", at, ("or", on, back)), ("not", ("and", back, at)))
        self.assert_asked(everything, [HERE, ("back", 2), ("on", 1), ("on", 3), ("at", "sea")])

    def test_within_every_kind_of_term(self):
        inner = ("ago", 4)
        for term in (
            ("+", inner, NOUGHT), ("+", NOUGHT, inner), ("-", inner, NOUGHT), ("-", NOUGHT, inner),
            ("times", (0, 1), inner), ("abs", inner), ("abs", ("times", (1, 2), ("-", HERE, ("abs", inner)))),
        ):
            self.assert_asked(("<", term, NOUGHT), [HERE, ("back", 4)])
            self.assert_asked(("<", NOUGHT, term), [HERE, ("back", 4)])
            self.assert_asked(("=", term, NOUGHT), [HERE, ("back", 4)])

    def test_within_every_kind_of_condition(self):
        inner = ("<", ("until", 4), HERE)
        for condition in (
            ("not", inner), ("not", ("not", inner)), ("and", inner, yes(True)), ("and", yes(False), inner),
            ("or", inner, yes(True)), ("or", yes(True), inner), ("or", ("and", yes(True), ("not", inner)), yes(False)),
        ):
            self.assert_asked(condition, [HERE, ("on", 4)])

    def test_many_parts(self):
        chain = ("<", HERE, ("back", 1))
        for step in range(28):
            chain = ("not", chain)
        self.assert_asked(chain, [HERE, ("back", 1)])
        total = NOUGHT
        for place in (3, 1, 2, 9, 5, 4, 8, 7, 6, 1, 9, 3, 2):
            total = ("+", total, ("back", place))
        self.assert_asked(("<", total, NOUGHT), [HERE] + [("back", place) for place in range(1, 10)])


class Worth(unittest.TestCase):
    def assert_worth(self, term, expected, found=FOUND):
        ahead = copy.deepcopy(found)
        for turn in range(2):
            told = worth(term, found)
            self.assertEqual(told, expected)
            self.assertIs(type(told), tuple)
            self.assertEqual([type(part) for part in told], [int, int])
        self.assertEqual(found, ahead)
        self.assertEqual(list(found), list(ahead))

    def test_numbers(self):
        for value in ((0, 1), (1, 1), (22, 7), (999999999, 1), (999999998, 999999)):
            self.assert_worth(("num", value), value)

    def test_values(self):
        self.assert_worth(HERE, (-7, 2))
        self.assert_worth(("back", 1), (5, 1))
        self.assert_worth(("back", 3), (-1, 3))
        self.assert_worth(("on", 1), (2, 3))
        self.assert_worth(("on", 9), (0, 1))
        self.assert_worth(("at", "sea"), (40, 1))
        self.assert_worth(("at", "hill"), (-7, 2))

    def test_minutes(self):
        self.assert_worth(("ago", 1), (10, 1))
        self.assert_worth(("ago", 3), (600, 1))
        self.assert_worth(("until", 1), (60, 1))
        self.assert_worth(("until", 9), (4000, 1))

    def test_minutes_to_the_first_and_last_time(self):
        found = {HERE: (5, (0, 1)), ("back", 2): (0, (1, 1)), ("on", 2): (10 ** 9, (1, 1))}
        self.assert_worth(("ago", 2), (5, 1), found)
        self.assert_worth(("until", 2), (10 ** 9 - 5, 1), found)

    def test_sums_and_differences(self):
        self.assert_worth(("+", HERE, ("back", 3)), (-23, 6))
        self.assert_worth(("-", HERE, ("back", 3)), (-19, 6))
        self.assert_worth(("-", ("back", 3), HERE), (19, 6))
        self.assert_worth(("-", HERE, ("at", "hill")), (0, 1))
        self.assert_worth(("-", ("-", ("num", (9, 1)), ("num", (3, 1))), ("num", (2, 1))), (4, 1))
        self.assert_worth(("-", ("num", (9, 1)), ("-", ("num", (3, 1)), ("num", (2, 1)))), (8, 1))

    def test_products(self):
        self.assert_worth(("times", (2, 7), HERE), (-1, 1))
        self.assert_worth(("times", (0, 1), HERE), (0, 1))
        self.assert_worth(("times", (3, 5), ("ago", 1)), (6, 1))
        self.assert_worth(("times", (1, 2), ("times", (1, 3), ("num", (6, 1)))), (1, 1))

    def test_without_its_sign(self):
        self.assert_worth(("abs", HERE), (7, 2))
        self.assert_worth(("abs", ("back", 1)), (5, 1))
        self.assert_worth(("abs", ("on", 9)), (0, 1))
        self.assert_worth(("abs", ("abs", ("back", 3))), (1, 3))
        self.assert_worth(("abs", ("-", ("back", 3), ("back", 1))), (16, 3))
        self.assert_worth(("-", ("abs", ("back", 3)), ("back", 1)), (-14, 3))

    def test_large_values(self):
        large = 10 ** 60 - 1
        found = {HERE: (5, (-large, 8)), ("back", 1): (4, (large, 10))}
        total = fractions.Fraction(-large, 8) + fractions.Fraction(large, 10)
        self.assert_worth(("+", HERE, ("back", 1)), as_tuple(total), found)
        self.assert_worth(("abs", HERE), (large, 8), found)

    def test_terms_put_together(self):
        chance = random.Random(12)
        for turn in range(600):
            found = some_found(chance)
            term = some_term(chance, 4)
            self.assert_worth(term, as_tuple(worth_by_hand(term, found)), found)


class Holds(unittest.TestCase):
    def assert_holds(self, condition, expected, found=FOUND):
        ahead = copy.deepcopy(found)
        for turn in range(2):
            self.assertIs(holds(condition, found), expected)
        self.assertEqual(found, ahead)

    def test_less(self):
        self.assert_holds(("<", HERE, ("back", 3)), True)
        self.assert_holds(("<", ("back", 3), HERE), False)
        self.assert_holds(("<", HERE, ("at", "hill")), False)
        self.assert_holds(("<", ("num", (1, 3)), ("num", (1, 2))), True)
        self.assert_holds(("<", HERE, NOUGHT), True)
        self.assert_holds(("<", ("on", 9), NOUGHT), False)

    def test_equal(self):
        self.assert_holds(("=", HERE, ("at", "hill")), True)
        self.assert_holds(("=", HERE, ("abs", HERE)), False)
        self.assert_holds(("=", HERE, ("back", 1)), False)
        self.assert_holds(("=", ("times", (1, 2), ("back", 1)), ("num", (5, 2))), True)
        self.assert_holds(("=", ("until", 1), ("num", (60, 1))), True)
        self.assert_holds(("=", ("on", 9), NOUGHT), True)

    def test_not(self):
        for held in (True, False):
            self.assert_holds(("not", yes(held)), not held)
            self.assert_holds(("not", ("not", yes(held))), held)

    def test_and_or(self):
        for one in (True, False):
            for other in (True, False):
                self.assert_holds(("and", yes(one), yes(other)), one and other)
                self.assert_holds(("or", yes(one), yes(other)), one or other)
                self.assert_holds(("not", ("and", yes(one), ("not", yes(other)))), not (one and not other))
                self.assert_holds(("or", ("not", yes(one)), ("and", yes(other), yes(one))), not one or (other and one))

    def test_ago_and_until(self):
        self.assert_holds(("<", ("ago", 1), ("num", (10, 1))), False)
        self.assert_holds(("<", ("ago", 1), ("num", (11, 1))), True)
        self.assert_holds(("<", ("num", (59, 1)), ("until", 1)), True)
        self.assert_holds(("<", ("num", (60, 1)), ("until", 1)), False)

    def test_asked_again_with_other_values(self):
        condition = ("and", ("<", ("back", 1), HERE), ("<", ("ago", 1), ("num", (30, 1))))
        for values, expected in (
            ({HERE: (100, (5, 1)), ("back", 1): (80, (4, 1))}, True),
            ({HERE: (100, (5, 1)), ("back", 1): (70, (4, 1))}, False),
            ({HERE: (100, (5, 1)), ("back", 1): (80, (5, 1))}, False),
            ({HERE: (100, (5, 1)), ("back", 1): (80, (4, 1))}, True),
        ):
            self.assert_holds(condition, expected, values)
        found = {HERE: (100, (5, 1)), ("back", 1): (80, (4, 1))}
        self.assert_holds(condition, True, found)
        found[HERE] = (100, (-5, 1))
        self.assert_holds(condition, False, found)

    def test_conditions_put_together(self):
        chance = random.Random(13)
        told = []
        for turn in range(600):
            found = some_found(chance)
            condition = some_condition(chance, 3)
            told.append(holds_by_hand(condition, found))
            self.assert_holds(condition, told[-1], found)
            only = {asked: found[asked] for asked in asked_by(condition)}
            self.assert_holds(condition, told[-1], only)
        self.assertGreater(told.count(True), 100)
        self.assertGreater(told.count(False), 100)


if __name__ == "__main__":
    unittest.main()
