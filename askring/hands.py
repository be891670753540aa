"""The hand: it asks, and collects the answers. It is side 0 of its store."""

from askring.errors import Full, NoName
from askring.rings import ANSWERS, ASKS, Ring


class Hand:
    def __init__(self, store, size, rounds, names, faults):
        self.asks = Ring(store, 0, ASKS, size, rounds, faults)
        self.answers = Ring(store, 0, ANSWERS, size, rounds, faults)
        self.names = names
        self.going = {}

    # Its rings have nothing of their own but the store, which the yard sees to.
    def become(self, one):
        self.going = dict(one.going)

    def least_free(self):
        for name in range(self.names):
            if name not in self.going:
                return name
        return None

    # By itself, so that a yard can find out whether asking is refused without asking.
    def check_ask(self):
        if self.asks.is_full():
            raise Full("the ring of asks is full")
        if self.least_free() is None:
            raise NoName("all names are under way")

    def ask(self, worth):
        self.check_ask()
        name = self.least_free()
        self.going[name] = True
        self.asks.lay(name, worth)
        return name

    def collect(self):
        told = self.answers.fetch()
        if told is not None:
            self.going.pop(told[0], None)
        return told

    def under_way(self):
        return sorted(self.going)

    def something_waits(self):
        return self.answers.filled() != 0
