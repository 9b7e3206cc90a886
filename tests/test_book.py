import itertools
import random
import unittest

from weather.book import Book

LAST = 10 ** 9
SIXTY = 10 ** 60 - 1


def book_of(readings):
    book = Book()
    for reading in readings:
        book.put(reading)
    return book


def kept_by_hand(readings):
    """For each time and mast the greatest of what was put, by turn, then number."""
    keys = sorted({(time, mast) for mast, time, turn, number in readings})
    return [
        max((one for one in readings if (one[1], one[0]) == key), key=lambda one: (one[2], one[3])) for key in keys
    ]


class Put(unittest.TestCase):
    def assert_put(self, steps):
        """Each step: a reading, what put tells, what is kept behind it."""
        book = Book()
        for reading, told, kept in steps:
            with self.subTest(reading=reading):
                self.assertIs(book.put(reading), told)
                self.assertEqual(book.kept(), kept)

    def test_a_new_book_keeps_none(self):
        self.assertEqual(Book().kept(), [])
        self.assertEqual(Book().of_mast("hill"), [])

    def test_the_first_for_a_mast_and_time(self):
        one = ("hill", 5, 0, 3)
        later = ("hill", 6, 0, 3)
        other = ("sea", 5, 0, 3)
        self.assert_put([(one, True, [one]), (later, True, [one, later]), (other, True, [one, other, later])])

    def test_the_same_again(self):
        one = ("hill", 5, 2, 3)
        self.assert_put([(one, True, [one]), (one, False, [one]), (("hill", 5, 2, 3), False, [one])])

    def test_a_greater_turn(self):
        first = ("hill", 5, 0, 3)
        greater = ("hill", 5, 1, 3)
        lesser_number = ("hill", 5, 2, -9)
        self.assert_put([
            (first, True, [first]), (greater, True, [greater]), (lesser_number, True, [lesser_number]),
            (greater, False, [lesser_number]), (first, False, [lesser_number]),
        ])

    def test_the_same_turn(self):
        less = ("hill", 5, 1, -9)
        middle = ("hill", 5, 1, -3)
        greater = ("hill", 5, 1, 4)
        self.assert_put([
            (middle, True, [middle]), (less, False, [middle]), (greater, True, [greater]), (middle, False, [greater]),
        ])

    def test_a_lesser_turn_with_a_greater_number(self):
        first = ("hill", 5, 1, -9)
        self.assert_put([(first, True, [first]), (("hill", 5, 0, 99), False, [first])])

    def test_turns_and_numbers_are_no_texts(self):
        first = ("hill", 5, 9, 9)
        number = ("hill", 5, 9, 10)
        turn = ("hill", 5, 10, 2)
        self.assert_put([(first, True, [first]), (number, True, [number]), (turn, True, [turn])])

    def test_the_bounds(self):
        for time in (0, LAST):
            least = ("a", time, 0, -SIXTY)
            more = ("a", time, 0, SIXTY)
            last = ("a", time, LAST, -SIXTY)
            most = ("a", time, LAST, SIXTY)
            self.assert_put([(least, True, [least]), (more, True, [more]), (last, True, [last]), (most, True, [most])])

    def test_two_books_keep_each_their_own(self):
        first = book_of([("hill", 5, 0, 3)])
        second = book_of([("sea", 6, 0, 4)])
        self.assertEqual(first.kept(), [("hill", 5, 0, 3)])
        self.assertEqual(second.kept(), [("sea", 6, 0, 4)])


class Order(unittest.TestCase):
    def test_by_time_then_mast(self):
        readings = [
            ("a", 0, 5, 9), ("b", 0, 0, 1), ("sea", 0, 3, 0), ("a", 9, 0, 7), ("hill", 9, 1, -4), ("hills", 9, 0, -4),
            ("a", 10, 0, 7), ("z", LAST, 0, 0),
        ]
        for order in (readings, readings[::-1], readings[3:] + readings[:3]):
            self.assertEqual(book_of(order).kept(), readings)

    def test_one_masts_by_time(self):
        book = book_of([
            ("hill", 100, 0, 1), ("sea", 5, 0, 2), ("hill", 9, 7, 3), ("hills", 8, 0, 4), ("hill", 10, 1, 5),
            ("hill", 9, 8, 6),
        ])
        self.assertEqual(book.of_mast("hill"), [("hill", 9, 8, 6), ("hill", 10, 1, 5), ("hill", 100, 0, 1)])
        self.assertEqual(book.of_mast("sea"), [("sea", 5, 0, 2)])
        self.assertEqual(book.of_mast("hills"), [("hills", 8, 0, 4)])
        self.assertEqual(book.of_mast("hil"), [])
        self.assertEqual(book.of_mast("none"), [])

    def test_what_is_told_are_tuples_of_the_told_kinds(self):
        for told in (book_of([("hill", 5, 0, 3)]).kept(), book_of([("hill", 5, 0, 3)]).of_mast("hill")):
            self.assertIs(type(told), list)
            self.assertEqual([type(reading) for reading in told], [tuple])
            self.assertEqual([type(part) for part in told[0]], [str, int, int, int])


class AnyOrder(unittest.TestCase):
    READINGS = [
        ("hill", 5, 0, 3), ("hill", 5, 0, 4), ("hill", 5, 1, -7),
        ("sea", 5, 0, 3), ("hill", 4, 2, 2), ("hill", 4, 2, 1),
    ]
    KEPT = [("hill", 4, 2, 2), ("hill", 5, 1, -7), ("sea", 5, 0, 3)]

    def test_every_order_leads_to_the_same_book(self):
        for order in itertools.permutations(self.READINGS):
            self.assertEqual(book_of(order).kept(), self.KEPT)

    def test_told_twice(self):
        for order in itertools.permutations(self.READINGS, 4):
            self.assertEqual(book_of(self.READINGS + list(order)).kept(), self.KEPT)
            self.assertEqual(book_of(list(order) + self.READINGS).kept(), self.KEPT)

    def test_once_all_is_put_nothing_is_new(self):
        book = book_of(self.READINGS)
        self.assertEqual([book.put(reading) for reading in self.READINGS], [False] * len(self.READINGS))

    def test_put_tells_whether_what_is_kept_is_another(self):
        chance = random.Random(7)
        for turn in range(40):
            book = Book()
            put = []
            for step in range(200):
                reading = (chance.choice("abc"), chance.randrange(5), chance.randrange(4), chance.randrange(-3, 4))
                ahead = book.kept()
                told = book.put(reading)
                put.append(reading)
                self.assertIs(told, book.kept() != ahead)
            self.assertEqual(book.kept(), kept_by_hand(put))
            for mast in "abcd":
                self.assertEqual(book.of_mast(mast), [one for one in kept_by_hand(put) if one[0] == mast])

    def test_two_hundred_kept(self):
        readings = [("hill" if time < 100 else "sea", time, 0, -time) for time in range(200)]
        self.assertEqual(book_of(readings[::-1]).kept(), readings)


class TheAskersOwn(unittest.TestCase):
    def test_a_list_that_was_given_is_changed(self):
        book = book_of([("hill", 5, 0, 3), ("sea", 6, 0, 4)])
        for ask in (book.kept, lambda: book.of_mast("hill")):
            told = ask()
            ahead = list(told)
            told.append(("sea", 9, 9, 9))
            told[0] = None
            self.assertEqual(ask(), ahead)
            told.clear()
            self.assertEqual(ask(), ahead)
            self.assertIsNot(ask(), ask())

    def test_a_list_of_none_is_changed(self):
        book = Book()
        book.kept().append(("sea", 9, 9, 9))
        book.of_mast("sea").append(("sea", 9, 9, 9))
        self.assertEqual((book.kept(), book.of_mast("sea")), ([], []))

    def test_a_list_that_was_given_stays_as_it_was_when_more_is_put(self):
        book = book_of([("hill", 5, 0, 3)])
        told = book.kept()
        of_mast = book.of_mast("hill")
        book.put(("hill", 5, 1, 3))
        book.put(("hill", 6, 1, 3))
        self.assertEqual((told, of_mast), ([("hill", 5, 0, 3)], [("hill", 5, 0, 3)]))

    def test_asked_again_the_same_is_told(self):
        book = book_of([("hill", 5, 0, 3), ("sea", 6, 0, 4)])
        self.assertEqual(book.kept(), book.kept())
        self.assertEqual(book.of_mast("sea"), book.of_mast("sea"))


if __name__ == "__main__":
    unittest.main()
