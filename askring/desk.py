"""The desk: a yard to which is said by rows of words what is to be done, and which tells it by words."""

from askring.allruns import errs
from askring.errors import NoRow
from askring.yards import FORMS, MOST_WORTH, Yard

FAULTS = ("bell", "counter", "lie", "look", "round")
FIGURES = "0123456789"
MOST_FIGURES = 12
# The least and the most of each kind of number but worths.
BOUNDS = {
    "size": (1, 8),
    "rounds": (2, 4),
    "names": (1, 9),
    "name": (0, 1000000000),
    "side": (0, 1),
}


def is_number(word):
    figures = word[1:] if word.startswith("-") else word
    # Sign by sign, since isdigit takes figures of other scripts, and int takes blanks and lower lines.
    if not 1 <= len(figures) <= MOST_FIGURES or not all([figure in FIGURES for figure in figures]):
        return False
    return str(int(word)) == word


def number_of(word, kind):
    if not is_number(word):
        raise NoRow("this is no number")
    bounds = BOUNDS.get(kind, (-MOST_WORTH, MOST_WORTH))
    number = int(word)
    if not bounds[0] <= number <= bounds[1]:
        raise NoRow("the number is out of bounds")
    return number


def numbers_of(words, kinds):
    if len(words) != len(kinds):
        raise NoRow("there are words too many or too few")
    return [number_of(word, kind) for word, kind in zip(words, kinds)]


def check_faults(faults):
    if not all([fault in FAULTS for fault in faults]):
        raise NoRow("there is no such fault")
    if faults != sorted(set(faults)):
        raise NoRow("faults rise and come once")


def yes_or_no(truth):
    return "yes" if truth else "no"


def part_text(part):
    return "none" if part is None else str(part)


def told_text(word, told):
    if word in ("answer", "lie", "drain"):
        return "ok"
    if isinstance(told, bool):
        return yes_or_no(told)
    if isinstance(told, tuple):
        return " ".join([part_text(part) for part in told])
    return part_text(told)


class Desk:
    def __init__(self):
        self.yard = None

    def say(self, row):
        if not isinstance(row, str):
            raise NoRow("this is no text")
        words = row.split(" ")
        if words[0] == "ring":
            return self.say_ring(words)
        if self.yard is None:
            raise NoRow("there is no yard")
        if words[0] in FORMS:
            return self.say_deed(words)
        return self.say_look(words)

    def say_ring(self, words):
        numbers = numbers_of(words[1:4], ("size", "rounds", "names"))
        faults = words[4:]
        check_faults(faults)
        self.yard = Yard(numbers[0], numbers[1], numbers[2], tuple(faults))
        return "ok"

    def say_deed(self, words):
        numbers = numbers_of(words[1:], FORMS[words[0]])
        told = self.yard.deed(tuple([words[0]] + numbers))
        return told_text(words[0], told)

    def say_look(self, words):
        if words == ["story"]:
            return str(len(self.yard.story()))
        if words == ["errs"]:
            return yes_or_no(errs(self.yard))
        if words[0] == "waits":
            side = numbers_of(words[1:], ("side",))[0]
            return str(len(self.yard.store().waits(side)))
        raise NoRow("there is no such row")
