"""A book: of all readings that were put for a mast and a time it keeps one."""


class Book:
    def __init__(self):
        # From (time, mast) to (turn, number): keys and values sort as the book asks for.
        self.latest = {}

    def put(self, reading):
        key = (reading[1], reading[0])
        told = (reading[2], reading[3])
        if key in self.latest and self.latest[key] >= told:
            return False
        self.latest[key] = told
        return True

    def kept(self):
        return [(key[1], key[0]) + self.latest[key] for key in sorted(self.latest)]

    def of_mast(self, mast):
        return [reading for reading in self.kept() if reading[0] == mast]
