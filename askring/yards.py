"""A yard: a store with its hand and its heart, and the deeds that can be done there."""

from askring.errors import NoDeed, RingError
from askring.hands import Hand
from askring.hearts import Heart
from askring.rings import rounds_with
from askring.stores import Store

MOST_WORTH = 1000000000
SLEEP_CELLS = ("hand sleeps", "heart sleeps")
# What stands behind the word of each deed.
FORMS = {
    "ask": ("worth",),
    "collect": (),
    "take": (),
    "answer": ("name", "worth"),
    "bell": ("side",),
    "lie": ("side",),
    "look": ("side",),
    "drain": ("side",),
}


def is_whole(value):
    return isinstance(value, int) and not isinstance(value, bool)


def is_part(value, kind):
    if not is_whole(value):
        return False
    if kind == "worth":
        return -MOST_WORTH <= value <= MOST_WORTH
    if kind == "side":
        return value in (0, 1)
    return True


def is_deed(some):
    # The word's kind comes ahead of looking it up: a list can't be looked up in a dict.
    if not isinstance(some, tuple) or len(some) == 0 or not isinstance(some[0], str):
        return False
    kinds = FORMS.get(some[0])
    if kinds is None or len(some) != len(kinds) + 1:
        return False
    return all([is_part(value, kind) for value, kind in zip(some[1:], kinds)])


def side_of(some):
    if some[0] in ("ask", "collect"):
        return 0
    if some[0] in ("take", "answer"):
        return 1
    return some[1]


def text_of(cell):
    if isinstance(cell, tuple):
        return " ".join([str(part) for part in cell])
    return cell


class Yard:
    def __init__(self, size, rounds, names, faults):
        self.size = size
        self.rounds = rounds_with(rounds, faults)
        self.faults = tuple(faults)
        self.shelf = Store()
        self.hand = Hand(self.shelf, size, rounds, names, faults)
        self.heart = Heart(self.shelf, size, rounds, faults)
        self.bell_fences = "bell" not in faults
        self.lie_fences = "lie" not in faults
        self.look_sees = "look" not in faults
        self.sleepers = ["up", "up"]
        self.quiet = [True, True]
        self.happened = []

    def deed(self, some):
        self.check(some)
        word = some[0]
        if word == "ask":
            return self.do_ask(some[1])
        if word == "collect":
            return self.tell_fetched("handed", self.hand.collect())
        if word == "take":
            return self.tell_fetched("taken", self.heart.take())
        if word == "answer":
            return self.do_answer(some[1], some[2])
        if word == "bell":
            return self.do_bell(some[1])
        if word == "lie":
            return self.do_lie(some[1])
        if word == "look":
            return self.do_look(some[1])
        return self.shelf.drain(some[1])

    def can_be_done(self, worths):
        return [some for some in self.thinkable(worths) if self.is_allowed(some)]

    def story(self):
        return list(self.happened)

    def state(self):
        cells = sorted(self.shelf.cells(), key=text_of)
        return (
            tuple([(cell, self.shelf.memory(cell)) for cell in cells]),
            tuple(self.shelf.waits(0)),
            tuple(self.shelf.waits(1)),
            tuple(self.hand.under_way()),
            tuple(self.heart.tasks()),
            self.sleepers[0],
            self.sleepers[1],
        )

    def sleeper(self, side):
        return self.sleepers[side]

    def is_quiet(self, side):
        return self.quiet[side]

    def made(self):
        return (self.size, self.rounds)

    def store(self):
        return self.shelf

    # A yard just like this one, with nothing in common: to go on from here in several ways.
    def twin(self):
        other = Yard(self.size, self.rounds, self.hand.names, self.faults)
        other.become(self)
        return other

    def become(self, one):
        self.shelf.become(one.shelf)
        self.hand.become(one.hand)
        self.heart.become(one.heart)
        self.sleepers = list(one.sleepers)
        self.quiet = list(one.quiet)
        self.happened = list(one.happened)

    # All refusals lie here, ahead of the doing: what is refused changes nothing.
    def check(self, some):
        if not is_deed(some):
            raise NoDeed("this is no deed")
        if some[0] == "drain":
            if not self.shelf.waits(some[1]):
                raise NoDeed("nothing waits")
            return
        if self.sleepers[side_of(some)] != ("lies" if some[0] == "look" else "up"):
            raise NoDeed("the side does no such thing now")
        if some[0] == "ask":
            self.hand.check_ask()
        if some[0] == "answer":
            self.heart.check_answer(some[1])

    def is_allowed(self, some):
        try:
            self.check(some)
        except RingError:
            return False
        return True

    def thinkable(self, worths):
        deeds = [("ask", worth) for worth in worths]
        deeds.extend([("collect",), ("take",)])
        for name in self.heart.tasks():
            deeds.extend([("answer", name, worth) for worth in worths])
        for word in ("bell", "lie", "look", "drain"):
            deeds.extend([(word, 0), (word, 1)])
        return deeds

    def do_ask(self, worth):
        name = self.hand.ask(worth)
        self.happened.append(("asked", name, worth))
        self.quiet[0] = False
        return name

    def do_answer(self, name, worth):
        self.heart.answer(name, worth)
        self.happened.append(("answered", name, worth))
        self.quiet[1] = False

    def tell_fetched(self, word, told):
        if told is not None:
            self.happened.append((word, told[0], told[1]))
        return told

    def do_bell(self, side):
        other = 1 - side
        if self.bell_fences:
            self.shelf.fence(side)
        self.quiet[side] = True
        if self.shelf.read(side, SLEEP_CELLS[other]) != 1:
            return False
        if self.sleepers[other] == "asleep":
            self.sleepers[other] = "up"
            self.shelf.write(other, SLEEP_CELLS[other], 0)
        return True

    def do_lie(self, side):
        self.shelf.write(side, SLEEP_CELLS[side], 1)
        if self.lie_fences:
            self.shelf.fence(side)
        self.sleepers[side] = "lies"

    def do_look(self, side):
        if not self.look_sees or not self.something_waits(side):
            self.sleepers[side] = "asleep"
            return False
        self.shelf.write(side, SLEEP_CELLS[side], 0)
        self.sleepers[side] = "up"
        return True

    def something_waits(self, side):
        return self.hand.something_waits() if side == 0 else self.heart.something_waits()
