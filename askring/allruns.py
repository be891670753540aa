"""All runs of a yard up to a length, and the first of them at whose end it errs."""

from askring.counters import ahead_by
from askring.rings import ANSWERS, ASKS
from askring.stories import first_wrong, not_fetched
from askring.yards import Yard


def errs(yard):
    story = yard.story()
    if first_wrong(story) is not None:
        return True
    # While something waits in a row, the memory may still come to what the story tells.
    if yard.store().waits(0) or yard.store().waits(1):
        return False
    if miscounts(yard, story, ASKS) or miscounts(yard, story, ANSWERS):
        return True
    return oversleeps(yard, 0) or oversleeps(yard, 1)


def filled_in_memory(yard, words):
    made = yard.made()
    laid = yard.store().memory(words[1])
    fetched = yard.store().memory(words[2])
    return ahead_by(laid, fetched, made[0], made[1])


def miscounts(yard, story, words):
    return filled_in_memory(yard, words) != len(not_fetched(story, words[1], words[2]))


def oversleeps(yard, side):
    if yard.sleeper(side) != "asleep" or not yard.is_quiet(1 - side):
        return False
    return filled_in_memory(yard, ANSWERS if side == 0 else ASKS) != 0


# Two yards of one make that haven't erred and have one mark err behind the same deeds: the state
# tells what can be done and what comes of it, the rest what of the story is still to be judged by.
def mark_of(yard):
    story = yard.story()
    return (
        yard.state(),
        yard.is_quiet(0),
        yard.is_quiet(1),
        tuple(not_fetched(story, "asked", "taken")),
        tuple(not_fetched(story, "answered", "handed")),
    )


class Search:
    def __init__(self, yard, worths):
        self.worths = worths
        self.ends = [(yard, [])]
        self.seen = {mark_of(yard): True}

    # A row that ends where an earlier one ended goes no further: whatever could err behind it
    # errs behind the earlier one too, and is told ahead of it.
    def lengthen(self):
        further = []
        for end in self.ends:
            for some in end[0].can_be_done(self.worths):
                yard = end[0].twin()
                yard.deed(some)
                row = end[1] + [some]
                if errs(yard):
                    return row
                mark = mark_of(yard)
                if mark not in self.seen:
                    self.seen[mark] = True
                    further.append((yard, row))
        self.ends = further
        return None


def first_erring(size, rounds, names, faults, worths, many):
    search = Search(Yard(size, rounds, names, faults), worths)
    left = many
    while left > 0 and search.ends:
        row = search.lengthen()
        if row is not None:
            return row
        left = left - 1
    return None
