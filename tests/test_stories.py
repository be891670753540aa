import itertools
import random
import unittest

from askring.stories import first_wrong, not_fetched
from askring.yards import Yard

WORDS = ("asked", "taken", "answered", "handed")
FAULTS = ("bell", "counter", "lie", "look", "round")


def pairs_of(story, word):
    return [(name, worth) for happened, name, worth in story if happened == word]


def names_of(story, word):
    return [name for name, worth in pairs_of(story, word)]


def judged_anew(story):
    """Point 16 sentence by sentence: each happening by the whole of what stands ahead of it."""
    for number, (word, name, worth) in enumerate(story):
        ahead, upto = story[:number], story[:number + 1]
        taken, handed = pairs_of(upto, "taken"), pairs_of(upto, "handed")
        if taken != pairs_of(upto, "asked")[:len(taken)] or handed != pairs_of(upto, "answered")[:len(handed)]:
            return number
        if word == "asked" and names_of(ahead, "asked").count(name) > names_of(ahead, "handed").count(name):
            return number
        if word == "answered" and names_of(ahead, "taken").count(name) <= names_of(ahead, "answered").count(name):
            return number
    return None


def round_of(name, worth, answer):
    return [("asked", name, worth), ("taken", name, worth), ("answered", name, answer), ("handed", name, answer)]


def some_story(chance, many):
    """A right story with three names, always the same of the same chance."""
    story, untaken, unhanded, tasks = [], [], [], []
    for _ in range(many):
        going = [name for name, _ in untaken + unhanded] + tasks
        word = chance.choice(WORDS)
        worth = chance.randint(-2, 2)
        if word == "asked" and len(going) < 3:
            name = chance.choice([name for name in range(3) if name not in going])
            untaken.append((name, worth))
        elif word == "taken" and untaken:
            name, worth = untaken.pop(0)
            tasks.append(name)
        elif word == "answered" and tasks:
            name = tasks.pop(chance.randrange(len(tasks)))
            unhanded.append((name, worth))
        elif word == "handed" and unhanded:
            name, worth = unhanded.pop(0)
        else:
            continue
        story.append((word, name, worth))
    return story


class StoryCase(unittest.TestCase):
    def wrong(self, number, *story):
        told = first_wrong(list(story))
        self.assertEqual(told, number, story)
        self.assertIs(type(told), int)

    def right(self, *story):
        self.assertIsNone(first_wrong(list(story)), story)


class RightTest(StoryCase):
    def test_the_empty_one(self):
        self.right()

    def test_every_beginning_of_a_round(self):
        story = round_of(0, 5, 6)
        for many in range(len(story) + 1):
            self.right(*story[:many])

    def test_a_name_comes_again_behind_handed(self):
        self.right(*round_of(0, 5, 6), *round_of(0, 5, 6), *round_of(0, 7, -7), ("asked", 0, 1))

    def test_answers_in_another_order_than_asks(self):
        self.right(("asked", 0, 5), ("asked", 1, 6), ("taken", 0, 5), ("taken", 1, 6), ("answered", 1, 7),
                   ("answered", 0, 8), ("handed", 1, 7), ("asked", 1, 9), ("handed", 0, 8), ("taken", 1, 9))

    def test_any_names_and_worths(self):
        self.right(*round_of(8, -10 ** 9, 10 ** 9), *round_of(3, 0, 0), *round_of(2000, 1, 1))

    def test_a_task_may_stay_unanswered_and_an_ask_untaken(self):
        self.right(("asked", 0, 5), ("asked", 1, 5), ("taken", 0, 5), ("asked", 2, 5))

    def test_two_thousand_happenings(self):
        story = round_of(0, 5, 6) * 500
        self.right(*story)
        self.wrong(2000, *story, ("handed", 0, 6))


class TakenTest(StoryCase):
    def test_never_asked(self):
        self.wrong(0, ("taken", 0, 5))
        self.wrong(4, *round_of(0, 5, 6), ("taken", 0, 5))

    def test_twice(self):
        self.wrong(2, ("asked", 0, 5), ("taken", 0, 5), ("taken", 0, 5))

    def test_another_name_or_worth(self):
        self.wrong(1, ("asked", 0, 5), ("taken", 1, 5))
        self.wrong(1, ("asked", 0, 5), ("taken", 0, 6))
        self.wrong(1, ("asked", 0, 5), ("taken", 5, 0))

    def test_not_in_order(self):
        self.wrong(2, ("asked", 0, 5), ("asked", 1, 6), ("taken", 1, 6), ("taken", 0, 5))

    def test_ahead_of_its_asking(self):
        self.wrong(0, ("taken", 0, 5), ("asked", 0, 5))
        self.wrong(2, ("asked", 0, 5), ("taken", 0, 5), ("taken", 1, 6), ("asked", 1, 6))

    def test_none_and_none(self):
        self.wrong(1, ("asked", 0, 5), ("taken", None, None))
        self.wrong(0, ("taken", None, None))

    def test_an_old_one(self):
        self.wrong(5, *round_of(0, 5, 6), ("asked", 0, 7), ("taken", 0, 5))


class HandedTest(StoryCase):
    def begun(self, *happenings):
        return (("asked", 0, 5), ("asked", 1, 6), ("taken", 0, 5), ("taken", 1, 6)) + happenings

    def test_never_answered(self):
        self.wrong(0, ("handed", 0, 5))
        self.wrong(4, *self.begun(("handed", 0, 5)))
        self.wrong(4, *round_of(0, 5, 6), ("handed", 0, 6))

    def test_another_name_or_worth(self):
        self.wrong(5, *self.begun(("answered", 0, 7), ("handed", 1, 7)))
        self.wrong(5, *self.begun(("answered", 0, 7), ("handed", 0, 5)))

    def test_not_in_the_order_of_answers(self):
        self.wrong(6, *self.begun(("answered", 1, 7), ("answered", 0, 8), ("handed", 0, 8), ("handed", 1, 7)))

    def test_ahead_of_its_answer(self):
        self.wrong(4, *self.begun(("handed", 0, 7), ("answered", 0, 7)))

    def test_none_and_none(self):
        self.wrong(5, *self.begun(("answered", 0, 7), ("handed", None, None)))


class AskedTest(StoryCase):
    def test_while_it_is_under_way(self):
        story = round_of(0, 5, 6)
        for many in range(1, len(story)):
            self.wrong(many, *story[:many], ("asked", 0, 5))
            self.wrong(many, *story[:many], ("asked", 0, 9))
            self.right(*story[:many], ("asked", 1, 5))

    def test_while_it_is_under_way_a_second_time(self):
        self.wrong(5, *round_of(0, 5, 6), ("asked", 0, 5), ("asked", 0, 5))

    def test_handing_another_name_lets_it_stay_under_way(self):
        story = [("asked", 0, 5), ("asked", 1, 6), ("taken", 0, 5), ("taken", 1, 6), ("answered", 1, 7),
                 ("handed", 1, 7)]
        self.wrong(6, *story, ("asked", 0, 5))
        self.right(*story, ("asked", 1, 5))


class AnsweredTest(StoryCase):
    def test_never_asked(self):
        self.wrong(0, ("answered", 0, 5))

    def test_asked_and_not_taken(self):
        self.wrong(1, ("asked", 0, 5), ("answered", 0, 5))
        self.wrong(3, ("asked", 0, 5), ("asked", 1, 5), ("taken", 0, 5), ("answered", 1, 5))

    def test_answered_already(self):
        story = round_of(0, 5, 6)
        self.wrong(3, *story[:3], ("answered", 0, 6))
        self.wrong(4, *story, ("answered", 0, 6))
        self.wrong(5, *story, ("asked", 0, 5), ("answered", 0, 6))
        self.right(*story, ("asked", 0, 5), ("taken", 0, 5), ("answered", 0, 6))

    def test_with_any_worth(self):
        self.right(("asked", 0, 5), ("taken", 0, 5), ("answered", 0, -99))


class NotFetchedTest(StoryCase):
    def test_what_is_left_of_each_ring(self):
        story = [("asked", 0, 5), ("asked", 1, 6), ("taken", 0, 5), ("asked", 2, 7), ("answered", 0, 8),
                 ("taken", 1, 6), ("answered", 1, 9), ("handed", 0, 8)]
        self.right(*story)
        self.assertEqual(not_fetched(story, "asked", "taken"), [(2, 7)])
        self.assertEqual(not_fetched(story, "answered", "handed"), [(1, 9)])
        self.assertEqual(not_fetched(story[:4], "asked", "taken"), [(1, 6), (2, 7)])
        self.assertEqual(not_fetched(story[:4], "answered", "handed"), [])
        self.assertEqual(not_fetched([], "asked", "taken"), [])


class AnyStoryTest(StoryCase):
    def test_the_first_of_several_is_told(self):
        self.wrong(1, ("asked", 0, 5), ("asked", 0, 5), ("taken", 0, 6), ("handed", 0, 6), ("answered", 1, 1))

    def test_all_short_stories(self):
        parts = [(word, name, worth) for word in WORDS for name, worth in ((0, 5), (1, 5), (0, 6))]
        for many in range(5):
            for story in itertools.product(parts, repeat=many):
                self.assertEqual(first_wrong(list(story)), judged_anew(list(story)), story)

    def test_long_stories_with_one_happening_left_out_doubled_or_changed(self):
        wrong = 0
        for number in range(300):
            chance = random.Random(number)
            story = some_story(chance, 80)
            self.right(*story)
            place = chance.randrange(len(story))
            word, name, worth = story[place]
            for others in ([], [story[place]] * 2, [(word, name, worth + 1)], [(word, (name + 1) % 3, worth)]):
                changed = story[:place] + others + story[place + 1:]
                told = first_wrong(changed)
                self.assertEqual(told, judged_anew(changed), changed)
                wrong += told is not None
        self.assertGreater(wrong, 900)

    def test_what_is_handed_in_stays(self):
        for story in (round_of(0, 5, 6), [("asked", 0, 5), ("taken", 0, 6), ("handed", 0, 6)], []):
            kept = list(story)
            told = first_wrong(story)
            self.assertEqual(story, kept)
            self.assertEqual(first_wrong(story), told)

    def test_one_story_tells_nothing_of_the_next(self):
        self.right(("asked", 0, 5))
        self.right(("asked", 0, 5))
        self.wrong(0, ("taken", 0, 5))

    def test_a_list_may_go_on_behind_the_call(self):
        story = [("asked", 0, 5)]
        self.assertIsNone(first_wrong(story))
        story.append(("asked", 0, 5))
        self.assertEqual(first_wrong(story), 1)

    def test_stories_of_yards_with_faults(self):
        wrong = 0
        for number in range(60):
            chance = random.Random(number)
            yard = Yard(1 + number % 2, 2, 3, (FAULTS[number % 5],))
            for _ in range(200):
                can = yard.can_be_done([chance.randint(1, 3)])
                yard.deed(chance.choice([deed for deed in can if deed[0] != "lie"]))
            self.assertEqual(first_wrong(yard.story()), judged_anew(yard.story()), number)
            wrong += first_wrong(yard.story()) is not None
        self.assertGreater(wrong, 10)


if __name__ == "__main__":
    unittest.main()
