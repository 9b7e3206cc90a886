import unittest

from weather.errors import NoFraction, NoRow, NoText, TooMany, Twice, WeatherError

WITH_FIELD = ((NoText, "row", 7), (Twice, "mast", "hill"), (TooMany, "most", 40))
WITHOUT_FIELD = (NoFraction, NoRow)
KINDS = tuple(kind for kind, _, _ in WITH_FIELD) + WITHOUT_FIELD


def one_of_each():
    return [kind(held) for kind, _, held in WITH_FIELD] + [kind() for kind in WITHOUT_FIELD]


class Refusals(unittest.TestCase):
    def test_weather_error_is_a_value_error(self):
        self.assertTrue(issubclass(WeatherError, ValueError))

    def test_each_is_a_weather_error_and_a_value_error(self):
        for refusal in one_of_each():
            with self.subTest(refusal=repr(refusal)):
                self.assertIsInstance(refusal, WeatherError)
                self.assertIsInstance(refusal, ValueError)

    def test_none_is_another_one(self):
        for refusal in one_of_each():
            with self.subTest(refusal=repr(refusal)):
                self.assertEqual(sum(isinstance(refusal, kind) for kind in KINDS), 1)

    def test_weather_error_is_none_of_the_five(self):
        for kind in KINDS:
            self.assertFalse(issubclass(WeatherError, kind))

    def test_each_field_holds_what_it_was_made_with(self):
        for kind, field, held in WITH_FIELD:
            with self.subTest(kind=kind.__name__):
                self.assertEqual(getattr(kind(held), field), held)

    def test_two_refusals_hold_each_their_own(self):
        first = NoText(1)
        second = NoText(2)
        self.assertEqual((first.row, second.row), (1, 2))

    def test_each_raised_is_caught_by_weather_error_with_its_field(self):
        for kind, field, held in WITH_FIELD:
            with self.subTest(kind=kind.__name__):
                with self.assertRaises(WeatherError) as caught:
                    raise kind(held)
                self.assertEqual(getattr(caught.exception, field), held)
        for kind in WITHOUT_FIELD:
            with self.subTest(kind=kind.__name__):
                with self.assertRaises(WeatherError) as caught:
                    raise kind()
                self.assertIs(type(caught.exception), kind)


if __name__ == "__main__":
    unittest.main()
