"""The words, numbers, fractions and signs of a row, taken one behind the other, and how many parts they make."""

from weather.errors import NoText

RUN_SIGNS = "abcdefghijklmnopqrstuvwxyz0123456789/"
MOST_PARTS = 30
MOST_BRACKETS = 16


# Whatever belongs to no run is a token by itself: a sign that belongs nowhere is refused where it is taken.
def split_row(text):
    parted = [sign if sign in RUN_SIGNS else f" {sign} " for sign in text]
    return [token for token in "".join(parted).split(" ") if token != ""]


class Tokens:
    def __init__(self, text):
        self.tokens = split_row(text)
        self.place = 0
        self.parts = 0
        self.brackets = 0

    # The token so many places on, a text without signs behind the last.
    def ahead(self, places=0):
        place = self.place + places
        return self.tokens[place] if place < len(self.tokens) else ""

    def take(self):
        token = self.ahead()
        if token == "":
            raise NoText(1)
        self.place += 1
        return token

    def expect(self, token):
        if self.take() != token:
            raise NoText(1)

    def expect_end(self):
        if self.ahead() != "":
            raise NoText(1)

    # Parts and brackets are counted as they begin, so that no text leads deeper than the bounds do.
    def begin_part(self):
        self.parts += 1
        if self.parts > MOST_PARTS:
            raise NoText(1)

    def enter(self, bracket):
        self.expect(bracket)
        self.brackets += 1
        if self.brackets > MOST_BRACKETS:
            raise NoText(1)

    def leave(self, bracket):
        self.expect(bracket)
        self.brackets -= 1
