"""What is seen from a reading of a row: those that a condition asks for."""


class Sight:
    def __init__(self, row):
        # A row is sorted by time, so each mast's own readings come by time too.
        self.masts = {}
        self.places = {}
        for reading in row:
            own = self.masts.setdefault(reading[0], [])
            self.places[(reading[0], reading[1])] = len(own)
            own.append(reading)

    # None where one of those that are asked for is not there.
    def seen_from(self, reading, asked):
        seen = {}
        for ask in asked:
            one = self.one_seen(reading, ask)
            if one is None:
                return None
            seen[ask] = one
        return seen

    def one_seen(self, reading, ask):
        mast = ask[1] if ask[0] == "at" else reading[0]
        place = self.places.get((mast, reading[1]))
        if place is None:
            return None
        if ask[0] == "back":
            place -= ask[1]
        if ask[0] == "on":
            place += ask[1]
        own = self.masts[mast]
        return own[place] if 0 <= place < len(own) else None
