"""What holds at every moment of a yard: all short runs of small yards, and long runs of all sizes."""
import copy
import itertools
import random
import unittest

from askring.allruns import errs
from askring.errors import RingError
from askring.stories import first_wrong
from askring.yards import Yard

SLEEPS = ("hand sleeps", "heart sleeps")
COUNTERS = (("asked", "taken"), ("answered", "handed"))
FAULTS = ("bell", "counter", "lie", "look", "round")
SMALL = [(1, 2, 1), (1, 2, 2), (2, 2, 2), (1, 3, 2)]


def happenings(story, word):
    return [(name, worth) for happened, name, worth in story if happened == word]


def is_right(story):
    """Point 16, judged from the whole of what stands ahead of each happening."""
    for number, (word, name, worth) in enumerate(story):
        ahead = story[:number]
        done = {each: happenings(ahead, each) for each in ("asked", "taken", "answered", "handed")}
        of_name = {each: sum(one[0] == name for one in done[each]) for each in done}
        right = {
            "asked": of_name["asked"] == of_name["handed"],
            "taken": done["asked"][len(done["taken"]):][:1] == [(name, worth)],
            "answered": of_name["taken"] > of_name["answered"],
            "handed": done["answered"][len(done["handed"]):][:1] == [(name, worth)],
        }
        if not right[word]:
            return False
    return True


def rest_of(names, gone):
    left = list(names)
    for name in gone:
        left.remove(name)
    return left


class RunCase(unittest.TestCase):
    def counts(self, yard):
        """How often each counter was written, in all and in the memory, without going round."""
        story, store = yard.story(), yard.store()
        row = store.waits(0) + store.waits(1)
        in_all = {word: len(happenings(story, word)) for word in ("asked", "taken", "answered", "handed")}
        return in_all, {word: in_all[word] - sum(write[0] == word for write in row) for word in in_all}

    def check_moment(self, yard, names, deeds):
        """Of a yard without faults: points 17, 18, and what it tells by what its story tells."""
        story, state, store = yard.story(), yard.state(), yard.store()
        self.assertTrue(is_right(story), deeds)
        self.assertIsNone(first_wrong(story), deeds)
        self.assertFalse(errs(yard), deeds)
        size, rounds = yard.made()
        in_all, in_memory = self.counts(yard)
        for word in in_all:
            self.assertEqual(store.memory(word), in_memory[word] % (size * rounds), deeds)
        named = {word: [name for name, worth in happenings(story, word)] for word in in_all}
        self.assertEqual(list(state[3]), sorted(rest_of(named["asked"], named["handed"])), deeds)
        self.assertEqual(list(state[4]), sorted(rest_of(named["taken"], named["answered"])), deeds)
        self.check_refusals(yard, names, in_all, in_memory, deeds)
        for side in (0, 1):
            self.check_sleeper(yard, side, in_memory, deeds)

    def check_refusals(self, yard, names, in_all, in_memory, deeds):
        can, up = yard.can_be_done([1]), [yard.sleeper(side) == "up" for side in (0, 1)]
        size, state = yard.made()[0], yard.state()
        room = in_all["asked"] - in_memory["taken"] < size
        self.assertEqual(("ask", 1) in can, up[0] and room and len(state[3]) < names, deeds)
        room = in_all["answered"] - in_memory["handed"] < size
        answers = [("answer", name, 1) for name in state[4]] if up[1] and room else []
        self.assertEqual([deed for deed in can if deed[0] == "answer"], answers, deeds)

    def check_sleeper(self, yard, side, in_memory, deeds):
        other = 1 - side
        self.assertEqual(yard.is_quiet(side), self.is_quiet_by(deeds, side), deeds)
        if yard.sleeper(side) == "asleep":
            self.assertEqual(yard.store().memory(SLEEPS[side]), 1, deeds)
            laid, fetched = COUNTERS[other]
            if in_memory[laid] > in_memory[fetched]:
                self.assertFalse(yard.is_quiet(other), deeds)
            if deeds:
                self.assertNotEqual(deeds[-1], ("bell", other), deeds)

    def is_quiet_by(self, deeds, side):
        loud = [deed for deed in deeds if deed[0] == ("ask", "answer")[side] or deed == ("bell", side)]
        return not loud or loud[-1][0] == "bell"

    def check_telling(self, yard, deed, before):
        """What taking, collecting and looking tell by how often the counters had been written ahead of it."""
        told = yard.deed(deed)
        in_all, in_memory = before
        for seeing, (laid, fetched) in zip((("take",), ("collect",)), COUNTERS):
            waits = in_memory[laid] > in_all[fetched]
            if deed == seeing:
                self.assertEqual(told is not None, waits)
            if deed == ("look", 1 if seeing == ("take",) else 0):
                self.assertIs(told, waits)


class AllShortRunsTest(RunCase):
    def go_through(self, make, faults, depth, look_at):
        """Each yard that at most so many deeds lead to, once for each state, story and quiet."""
        yards, seen = [(Yard(*make, faults), [])], set()
        for left in reversed(range(depth + 1)):
            further = []
            for yard, deeds in yards:
                look_at(yard, deeds)
                for deed in yard.can_be_done([1]) if left else []:
                    then = copy.deepcopy(yard)
                    if not faults:
                        self.check_telling(then, deed, self.counts(yard))
                    else:
                        then.deed(deed)
                    mark = then.state(), tuple(then.story()), then.is_quiet(0), then.is_quiet(1)
                    if mark not in seen or deed[0] == "bell":
                        seen.add(mark)
                        further.append((then, deeds + [deed]))
            yards = further

    def test_without_faults(self):
        for make in SMALL:
            with self.subTest(make=make):
                self.go_through(make, (), 6, lambda yard, deeds: self.check_moment(yard, make[2], deeds))

    def test_just_the_told_deeds_are_not_refused_and_a_refusal_changes_nothing(self):
        every = [("ask", 1), ("collect",), ("take",), *[("answer", name, 1) for name in range(3)]]
        every += [(word, side) for word in ("bell", "lie", "look", "drain") for side in (0, 1)]

        def try_every(yard, deeds):
            told, story, done = yard.state(), yard.story(), []
            for deed in every:
                then = copy.deepcopy(yard)
                try:
                    then.deed(deed)
                    done.append(deed)
                except RingError:
                    self.assertEqual((then.state(), then.story()), (told, story), (deeds, deed))
            self.assertEqual(yard.can_be_done([1]), done, deeds)

        for faults in ((),) + tuple((fault,) for fault in FAULTS) + (FAULTS,):
            with self.subTest(faults=faults):
                self.go_through((1, 2, 2), faults, 4, try_every)

    def test_one_state_goes_on_in_one_way(self):
        for faults in ((), FAULTS, ("counter",), ("round",)):
            ways = {}

            def compare(yard, deeds):
                can, ways_on = yard.can_be_done([1]), []
                for deed in can:
                    then = copy.deepcopy(yard)
                    ways_on.append((deed, then.deed(deed), then.state()))
                self.assertEqual(ways.setdefault(yard.state(), ways_on), ways_on, deeds)

            with self.subTest(faults=faults):
                self.go_through((1, 2, 1), faults, 6, compare)


class LongRunsTest(RunCase):
    def go(self, yard, many, chance):
        """Some run, always the same of the same chance; each deed with those up to it, itself among them."""
        deeds = []
        for _ in range(many):
            can = yard.can_be_done([chance.randint(-9, 9)])
            if chance.random() < 0.7:
                can = [deed for deed in can if deed[0] != "drain"]
            # With both asleep the run would be at its end, so one stays up.
            if (yard.sleeper(0), yard.sleeper(1)) != ("up", "up"):
                can = [deed for deed in can if deed[0] != "lie"]
            deeds.append(chance.choice(can))
            yield deeds[-1], deeds

    def test_without_faults(self):
        for number, (size, rounds) in enumerate(itertools.product(range(1, 9), range(2, 5))):
            names = 1 + number % 9
            with self.subTest(size=size, rounds=rounds, names=names):
                yard = Yard(size, rounds, names, ())
                for deed, deeds in self.go(yard, 1000, random.Random(number)):
                    self.check_telling(yard, deed, self.counts(yard))
                    in_all, in_memory = self.counts(yard)
                    self.assertIsNone(first_wrong(yard.story()), deeds)
                    self.assertFalse(errs(yard), deeds)
                    self.check_refusals(yard, names, in_all, in_memory, deeds)
                    for side in (0, 1):
                        self.check_sleeper(yard, side, in_memory, deeds)
                self.check_moment(yard, names, deeds)

    def test_no_fault_stops_a_yard(self):
        for number in range(60):
            faults = tuple(fault for place, fault in enumerate(FAULTS) if (number + 1) >> place & 1)
            yard, again = Yard(2, 2, 3, faults), Yard(2, 2, 3, faults)
            told = []
            for deed, deeds in self.go(yard, 300, random.Random(number)):
                told.append((yard.deed(deed), yard.state()))
            self.assertEqual([(again.deed(deed), again.state()) for deed in deeds], told)


if __name__ == "__main__":
    unittest.main()
