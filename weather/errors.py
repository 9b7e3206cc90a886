"""The refusals: each stands under WeatherError, and under no other one of them."""


class WeatherError(ValueError):
    pass


class NoFraction(WeatherError):
    pass


class NoText(WeatherError):
    def __init__(self, row):
        self.row = row


class Twice(WeatherError):
    def __init__(self, mast):
        self.mast = mast


class TooMany(WeatherError):
    def __init__(self, most):
        self.most = most


class NoRow(WeatherError):
    pass
