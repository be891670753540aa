"""The heart: it takes the asks, and answers them in whatever order. It is side 1 of its store."""

from askring.errors import Full, NoTask
from askring.rings import ANSWERS, ASKS, Ring


class Heart:
    def __init__(self, store, size, rounds, faults):
        self.asks = Ring(store, 1, ASKS, size, rounds, faults)
        self.answers = Ring(store, 1, ANSWERS, size, rounds, faults)
        self.doing = {}

    # Its rings have nothing of their own but the store, which the yard sees to.
    def become(self, one):
        self.doing = dict(one.doing)

    def take(self):
        told = self.asks.fetch()
        if told is not None and told[0] is not None:
            self.doing[told[0]] = True
        return told

    # By itself, so that a yard can find out whether answering is refused without answering.
    def check_answer(self, name):
        if name not in self.doing:
            raise NoTask("the name is no task")
        if self.answers.is_full():
            raise Full("the ring of answers is full")

    def answer(self, name, worth):
        self.check_answer(name)
        self.answers.lay(name, worth)
        self.doing.pop(name)

    def tasks(self):
        return sorted(self.doing)

    def something_waits(self):
        return self.asks.filled() != 0
