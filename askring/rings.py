"""A ring of places, as one of the two sides sees it: one side lays into it, the other one fetches."""

from askring.counters import ahead_by, next_counter, place_of

# The word of the places, the counter of the side that lays, the counter of the side that fetches.
ASKS = ("ask", "asked", "taken")
ANSWERS = ("answer", "answered", "handed")


def rounds_with(rounds, faults):
    return 1 if "round" in faults else rounds


class Ring:
    def __init__(self, store, side, words, size, rounds, faults):
        self.shelf = store
        self.side = side
        self.word = words[0]
        self.laid = words[1]
        self.fetched = words[2]
        self.size = size
        self.rounds = rounds_with(rounds, faults)
        self.counter_first = "counter" in faults

    def filled(self):
        laid = self.shelf.read(self.side, self.laid)
        fetched = self.shelf.read(self.side, self.fetched)
        return ahead_by(laid, fetched, self.size, self.rounds)

    def is_full(self):
        return self.filled() == self.size

    def place_at(self, counter):
        return (self.word, place_of(counter, self.size))

    def write_further(self, cell, counter):
        self.shelf.write(self.side, cell, next_counter(counter, self.size, self.rounds))

    def lay(self, name, worth):
        counter = self.shelf.read(self.side, self.laid)
        if self.counter_first:
            self.write_further(self.laid, counter)
        self.shelf.write(self.side, self.place_at(counter), (name, worth))
        if not self.counter_first:
            self.write_further(self.laid, counter)

    def fetch(self):
        if self.filled() == 0:
            return None
        counter = self.shelf.read(self.side, self.fetched)
        found = self.shelf.read(self.side, self.place_at(counter))
        self.write_further(self.fetched, counter)
        # With the fault counter the counter may be seen while the place still holds its first 0.
        return found if isinstance(found, tuple) else (None, None)
