import itertools
import unittest

from askring.errors import Full, NoDeed, NoName, NoTask, RingError
from askring.stores import Store
from askring.yards import Yard

SLEEPS = ("hand sleeps", "heart sleeps")
WORK = ([("ask", 5), ("collect",)], [("take",), ("answer", 0, 5)])
# Asked and answered once, with everything in the memory.
ONE_ROUND = [("ask", 5), ("bell", 0), ("take",), ("answer", 0, 6), ("bell", 1)]


class YardCase(unittest.TestCase):
    def make(self, size, rounds, names, faults=(), deeds=()):
        self.yard = Yard(size, rounds, names, faults)
        return [self.yard.deed(deed) for deed in deeds]

    def all_told(self):
        quiet = self.yard.is_quiet(0), self.yard.is_quiet(1)
        return self.yard.state(), self.yard.story(), quiet, self.yard.can_be_done([1, 2])

    def assert_refused(self, refusal, some):
        told = self.all_told()
        for _ in range(2):
            self.assertRaises(refusal, self.yard.deed, some)
            self.assertEqual(self.all_told(), told)

    def words(self):
        return self.yard.sleeper(0), self.yard.sleeper(1)

    def waits(self, side):
        return self.yard.store().waits(side)


class MadeTest(YardCase):
    def test_a_new_yard(self):
        self.make(2, 2, 2)
        self.assertEqual(self.yard.state(), ((), (), (), (), (), "up", "up"))
        self.assertEqual(self.yard.story(), [])
        self.assertEqual((self.yard.is_quiet(0), self.yard.is_quiet(1)), (True, True))

    def test_made(self):
        for size, rounds in itertools.product(range(1, 9), range(2, 5)):
            for faults in ((), ("bell",), ("bell", "counter", "lie", "look")):
                told = Yard(size, rounds, 1, faults).made()
                self.assertIs(type(told), tuple)
                self.assertEqual(told, (size, rounds))
            for faults in (("round",), ("bell", "counter", "lie", "look", "round")):
                self.assertEqual(Yard(size, rounds, 1, faults).made(), (size, 1))

    def test_store_is_its_very_store(self):
        self.make(2, 2, 2)
        store = self.yard.store()
        self.assertIs(type(store), Store)
        self.assertIs(self.yard.store(), store)
        self.yard.deed(("ask", 5))
        self.assertEqual(store.waits(0), [(("ask", 0), (0, 5)), ("asked", 1)])
        self.yard.deed(("drain", 0))
        self.assertEqual(store.cells(), [("ask", 0)])

    def test_two_yards_have_nothing_in_common(self):
        one, other = Yard(1, 2, 1, ()), Yard(1, 2, 1, ())
        for deed in ONE_ROUND + [("lie", 0)]:
            one.deed(deed)
        self.assertEqual(other.state(), ((), (), (), (), (), "up", "up"))
        self.assertEqual(other.story(), [])
        self.assertTrue(other.is_quiet(0))
        self.assertIsNot(one.store(), other.store())


class TwinTest(YardCase):
    def make_one(self, faults=()):
        deeds = [("ask", 5), ("drain", 0), ("drain", 0), ("take",), ("ask", 7), ("drain", 0), ("answer", 0, 6),
                 ("lie", 0), ("look", 0), ("drain", 1)]
        self.make(2, 3, 4, faults, deeds)
        return self.yard

    def test_it_is_just_like_the_yard(self):
        for faults in ((), ("bell",), ("counter",), ("lie",), ("look",), ("round",)):
            one = self.make_one(faults)
            told, made = self.all_told(), one.made()
            self.yard = one.twin()
            self.assertEqual((self.all_told(), self.yard.made()), (told, made))
            for deed in [("lie", 1), ("look", 1), ("drain", 0), ("bell", 1), ("take",), ("ask", 1), ("ask", 1),
                         ("collect",), ("bell", 0), ("drain", 1), ("take",)]:
                told = []
                for yard in (one, self.yard):
                    try:
                        told.append((yard.deed(deed), yard.state(), yard.story()))
                    except RingError as error:
                        told.append((type(error), yard.state(), yard.story()))
                self.assertEqual(told[0], told[1], (faults, deed))

    def test_they_have_nothing_in_common(self):
        for first in (True, False):
            one = self.make_one()
            other = one.twin()
            self.yard = one if first else other
            told = self.all_told()
            for deed in [("take",), ("bell", 1), ("collect",), ("ask", 8), ("lie", 1), ("look", 1), ("drain", 0)]:
                (other if first else one).deed(deed)
            self.assertEqual(self.all_told(), told)
            self.assertIsNot(one.store(), other.store())


class WorkTest(YardCase):
    def test_what_the_deeds_tell(self):
        deeds = [("ask", 5), ("ask", -6), ("take",), ("drain", 0), ("drain", 0), ("take",), ("take",),
                 ("answer", 0, 7), ("collect",), ("bell", 1), ("collect",), ("collect",)]
        told = self.make(2, 2, 2, (), deeds)
        self.assertEqual(told, [0, 1, None, None, None, (0, 5), None, None, None, False, (0, 7), None])
        for number, kind in ((0, int), (5, tuple), (9, bool)):
            self.assertIs(type(told[number]), kind)

    def test_full_and_no_name(self):
        self.make(1, 2, 1, (), [("ask", 5)])
        self.assert_refused(Full, ("ask", 5))
        self.make(1, 2, 1, (), [("ask", 5), ("bell", 0), ("take",), ("bell", 1)])
        self.assert_refused(NoName, ("ask", 5))

    def test_full_till_the_taking_is_drained(self):
        self.make(1, 2, 2, (), [("ask", 5), ("bell", 0), ("take",)])
        self.assert_refused(Full, ("ask", 6))
        self.yard.deed(("drain", 1))
        self.assertEqual(self.yard.deed(("ask", 6)), 1)

    def test_no_task_and_full(self):
        self.make(1, 2, 2, (), ONE_ROUND + [("ask", 7), ("bell", 0), ("take",)])
        for name in (0, 2, -1, 10 ** 9 + 1, -10 ** 30, 10 ** 5000):
            self.assert_refused(NoTask, ("answer", name, 5))
        self.assert_refused(Full, ("answer", 1, 5))

    def test_worths_at_the_bounds(self):
        for worth in (-10 ** 9, 10 ** 9, 0):
            deeds = [("ask", worth), ("bell", 0), ("take",), ("answer", 0, worth), ("bell", 1), ("collect",)]
            self.assertEqual(self.make(1, 2, 1, (), deeds), [0, False, (0, worth), None, False, (0, worth)])

    def test_draining(self):
        self.make(1, 2, 1, (), [("ask", 5)])
        self.assertIsNone(self.yard.deed(("drain", 0)))
        self.assertEqual(self.waits(0), [("asked", 1)])
        self.assertEqual(self.yard.store().memory(("ask", 0)), (0, 5))
        self.assert_refused(NoDeed, ("drain", 1))
        self.yard.deed(("drain", 0))
        self.assert_refused(NoDeed, ("drain", 0))

    def test_two_thousand_deeds(self):
        self.make(3, 3, 2)
        happened = []
        for step in range(250):
            run = [("ask", step), ("drain", 0), ("drain", 0), ("take",), ("answer", 0, -step), ("bell", 1),
                   ("collect",), ("drain", 0)]
            self.assertEqual([self.yard.deed(deed) for deed in run],
                             [0, None, None, (0, step), None, False, (0, -step), None])
            happened += [("asked", 0, step), ("taken", 0, step), ("answered", 0, -step), ("handed", 0, -step)]
        self.assertEqual(self.yard.story(), happened)
        memory = dict(self.yard.state()[0])
        for cell in ("asked", "taken", "answered", "handed"):
            self.assertEqual(memory[cell], 250 % 9)


class NoDeedsTest(YardCase):
    THINGS = [
        None, True, 0, 5, "", "collect", "ask 5", [], {}, set(), b"take", object(), len, Yard,
        ["collect"], ["ask", 5], {"ask": 5}, {"collect"}, (), ((),), (None,), (0,), (True,), ([],), ({},), (set(),),
        (("collect",),), (["take"],), ([], 5), ({}, 0, 5), ("",), ("Collect",), ("collect ",), ("ASK", 5), (b"ask", 5),
        ("wait",), ("bells", 0), ("fence", 0), ("asked", 5),
        ("ask",), ("ask", 5, 5), ("ask", None), ("ask", True), ("ask", False), ("ask", "5"), ("ask", [5]),
        ("ask", (5,)), ("ask", 10 ** 9 + 1), ("ask", -10 ** 9 - 1), ("ask", 10 ** 5000),
        (5, "ask"), ("ask", {}), ("ask", [[]]),
        ("collect", 0), ("collect", None), ("collect", ()), ("take", 1), ("take", None), ("take", "take"),
        ("answer",), ("answer", 0), ("answer", 0, 5, 5), ("answer", False, 5), ("answer", True, 5), ("answer", None, 5),
        ("answer", "0", 5), ("answer", [0], 5), ("answer", (0,), 5), ("answer", 0, True), ("answer", 0, None),
        ("answer", 0, "5"), ("answer", 0, 10 ** 9 + 1), ("answer", 0, -10 ** 9 - 1), ("answer", 0, []),
        ("answer", 9, 10 ** 9 + 1),
    ]
    SIDED = [
        (), (0, 0), (1, None), (2,), (-1,), (-2,), (10 ** 9,), (10 ** 5000,), (True,), (False,), (None,), ("0",),
        ("hand",), ([0],), ((0,),), ({},),
    ]

    def things(self):
        return self.THINGS + [(word, *rest) for word in ("bell", "lie", "look", "drain") for rest in self.SIDED]

    def test_none_is_a_deed(self):
        for deeds in ([], ONE_ROUND[:3], ONE_ROUND + [("lie", 0)], [("lie", 0), ("look", 0), ("lie", 1), ("look", 1)]):
            self.make(2, 2, 2, (), deeds)
            for some in self.things():
                self.assert_refused(NoDeed, some)

    def test_what_is_handed_in_stays_as_it_was(self):
        self.make(2, 2, 2)
        some, worths = ["ask", 5], [5, 6]
        self.assertRaises(NoDeed, self.yard.deed, some)
        self.yard.can_be_done(worths)
        self.assertEqual((some, worths), (["ask", 5], [5, 6]))


class BellTest(YardCase):
    def test_a_fence_of_its_side_alone(self):
        for side in (0, 1):
            self.make(2, 2, 2, (), ONE_ROUND[:3] + [("ask", 5), ("answer", 0, 6)])
            other_row = self.waits(1 - side)
            self.assertIs(self.yard.deed(("bell", side)), False)
            self.assertEqual(self.waits(side), [])
            self.assertEqual(self.waits(1 - side), other_row)
            self.assertNotEqual(other_row, [])

    def test_the_other_one_is_up(self):
        for side in (0, 1):
            self.make(1, 2, 1)
            self.assertIs(self.yard.deed(("bell", side)), False)
            self.assertEqual(self.yard.state(), ((), (), (), (), (), "up", "up"))

    def test_the_other_one_lies_and_goes_on_lying(self):
        for side in (0, 1):
            self.make(1, 2, 1, (), [("lie", 1 - side)])
            told = self.yard.state()
            for _ in range(2):
                self.assertIs(self.yard.deed(("bell", side)), True)
                self.assertEqual(self.yard.state(), told)
            self.assertEqual(self.yard.sleeper(1 - side), "lies")
            self.assertIs(self.yard.deed(("look", 1 - side)), False)

    def test_the_other_one_is_asleep_and_wakes(self):
        for side in (0, 1):
            other = 1 - side
            self.make(1, 2, 1, (), [("lie", other), ("look", other)])
            self.assertEqual(self.yard.sleeper(other), "asleep")
            self.assertIs(self.yard.deed(("bell", side)), True)
            self.assertEqual(self.words(), ("up", "up"))
            self.assertEqual(self.waits(other), [(SLEEPS[other], 0)])
            self.assertEqual(self.waits(side), [])
            self.assertEqual(self.yard.store().memory(SLEEPS[other]), 1)

    def test_it_wakes_once_though_the_1_is_still_read(self):
        for side in (0, 1):
            other = 1 - side
            self.make(1, 2, 1, (), [("lie", other), ("look", other), ("bell", side)])
            told = self.yard.state()
            self.assertIs(self.yard.deed(("bell", side)), True)
            self.assertEqual(self.yard.state(), told)
            self.yard.deed(("drain", other))
            self.assertIs(self.yard.deed(("bell", side)), False)
            self.assertEqual(self.yard.state(), ((), (), (), (), (), "up", "up"))

    def test_who_looked_and_got_up_is_still_read_as_1(self):
        self.make(1, 2, 1, (), [("ask", 5), ("bell", 0), ("lie", 1)])
        self.assertIs(self.yard.deed(("look", 1)), True)
        self.assertIs(self.yard.deed(("bell", 0)), True)
        self.assertEqual(self.waits(1), [("heart sleeps", 0)])
        self.yard.deed(("drain", 1))
        self.assertIs(self.yard.deed(("bell", 0)), False)

    def test_who_woke_can_work_again(self):
        deeds = [("lie", 1), ("look", 1), ("ask", 5), ("bell", 0), ("take",), ("lie", 0), ("look", 0),
                 ("answer", 0, 6), ("bell", 1), ("collect",)]
        told = self.make(1, 2, 1, (), deeds)
        self.assertEqual(told, [None, False, 0, True, (0, 5), None, False, None, True, (0, 6)])


class LieAndLookTest(YardCase):
    def test_lying_down_writes_1_and_fences(self):
        for side in (0, 1):
            self.make(2, 2, 2, (), ONE_ROUND[:3] + [("ask", 5), ("answer", 0, 6)])
            other_row = self.waits(1 - side)
            self.assertIsNone(self.yard.deed(("lie", side)))
            self.assertEqual(self.yard.sleeper(side), "lies")
            self.assertEqual(self.yard.sleeper(1 - side), "up")
            self.assertEqual(self.waits(side), [])
            self.assertEqual(self.waits(1 - side), other_row)
            self.assertEqual(self.yard.store().memory(SLEEPS[side]), 1)
            self.assertEqual(self.yard.store().memory(SLEEPS[1 - side]), 0)
            self.assertEqual(self.yard.store().memory(("asked", "answered")[side]), (2, 1)[side])

    def test_looking_where_nothing_waits_falls_asleep(self):
        for side in (0, 1):
            self.make(1, 2, 1, (), [("lie", side)])
            self.assertIs(self.yard.deed(("look", side)), False)
            self.assertEqual(self.yard.sleeper(side), "asleep")
            self.assertEqual(self.waits(side), [])
            self.assertEqual(self.yard.store().memory(SLEEPS[side]), 1)

    def test_looking_where_something_waits_gets_up(self):
        for side, deeds in ((0, ONE_ROUND), (1, ONE_ROUND[:2])):
            self.make(1, 2, 1, (), deeds + [("lie", side)])
            self.assertIs(self.yard.deed(("look", side)), True)
            self.assertEqual(self.yard.sleeper(side), "up")
            self.assertEqual(self.waits(side), [(SLEEPS[side], 0)])
            self.assertEqual(self.yard.store().memory(SLEEPS[side]), 1)
            self.assert_refused(NoDeed, ("look", side))

    def test_what_waits_in_the_row_of_the_other_one_is_not_seen(self):
        self.make(1, 2, 1, (), [("ask", 5), ("drain", 0), ("lie", 1)])
        self.assertIs(self.yard.deed(("look", 1)), False)
        self.make(1, 2, 1, (), [("ask", 5), ("drain", 0), ("lie", 1), ("drain", 0)])
        self.assertIs(self.yard.deed(("look", 1)), True)
        self.make(1, 2, 1, (), ONE_ROUND[:4] + [("drain", 1), ("lie", 0)])
        self.assertIs(self.yard.deed(("look", 0)), False)

    def test_what_was_fetched_already_does_not_wait(self):
        self.make(1, 2, 1, (), ONE_ROUND + [("collect",), ("lie", 0), ("lie", 1)])
        self.assertIs(self.yard.deed(("look", 0)), False)
        self.assertIs(self.yard.deed(("look", 1)), False)

    def test_a_full_ring_waits(self):
        for size in (1, 2, 8):
            self.make(size, 2, size, (), [("ask", 5)] * size + [("bell", 0), ("lie", 1)])
            self.assertIs(self.yard.deed(("look", 1)), True)

    def test_lying_down_again_behind_getting_up(self):
        self.make(1, 2, 1, (), ONE_ROUND[:2] + [("lie", 1), ("look", 1), ("take",), ("lie", 1)])
        self.assertEqual(self.waits(1), [])
        self.assertEqual(self.yard.store().memory("heart sleeps"), 1)
        self.assertIs(self.yard.deed(("look", 1)), False)

    def test_looking_of_one_that_is_up(self):
        self.make(1, 2, 1)
        for side in (0, 1):
            self.assert_refused(NoDeed, ("look", side))

    def test_who_lies_does_nothing_but_look(self):
        for side in (0, 1):
            self.make(2, 2, 2, (), ONE_ROUND[:3] + [("lie", side)])
            for some in WORK[side] + [("bell", side), ("lie", side)]:
                self.assert_refused(NoDeed, some)
            self.assertEqual(self.yard.sleeper(side), "lies")

    def test_who_is_asleep_does_nothing(self):
        for side in (0, 1):
            self.make(2, 2, 2, (), ONE_ROUND[:3] + [("lie", side), ("look", side)])
            for some in WORK[side] + [("bell", side), ("lie", side), ("look", side)]:
                self.assert_refused(NoDeed, some)
            self.assertEqual(self.yard.sleeper(side), "asleep")

    def test_the_other_side_goes_on(self):
        self.make(1, 2, 1, (), ONE_ROUND[:2] + [("lie", 0), ("look", 0)])
        told = [self.yard.deed(deed) for deed in [("take",), ("answer", 0, 6), ("lie", 1), ("look", 1)]]
        self.assertEqual(told, [(0, 5), None, None, False])
        self.assertEqual(self.words(), ("asleep", "asleep"))

    def test_no_deed_goes_ahead_of_full_no_name_and_no_task(self):
        for rest in ([("lie", 0)], [("lie", 0), ("look", 0)]):
            self.make(1, 2, 1, (), [("ask", 5)] + rest)
            self.assert_refused(NoDeed, ("ask", 5))
            self.make(2, 2, 1, (), [("ask", 5)] + rest)
            self.assert_refused(NoDeed, ("ask", 5))
        for rest in ([("lie", 1)], [("lie", 1), ("look", 1)]):
            self.make(1, 2, 1, (), rest)
            self.assert_refused(NoDeed, ("answer", 0, 5))
            more = [("ask", 7), ("bell", 0), ("take",), ("lie", 1), ("look", 1)][:3 + len(rest)]
            self.make(1, 2, 2, (), ONE_ROUND + more)
            self.assert_refused(NoDeed, ("answer", 1, 5))

    def test_draining_goes_on_whatever_a_side_does(self):
        for side in (0, 1):
            self.make(1, 2, 1, ("lie",), [("lie", side)])
            self.assertIsNone(self.yard.deed(("drain", side)))
            self.assertEqual(self.yard.sleeper(side), "lies")
            self.make(1, 2, 1, ("lie",), [("lie", side), ("look", side)])
            self.assertIsNone(self.yard.deed(("drain", side)))
            self.assertEqual(self.yard.sleeper(side), "asleep")
            self.assertEqual(self.yard.store().memory(SLEEPS[side]), 1)
            self.assert_refused(NoDeed, ("drain", side))


class QuietTest(YardCase):
    def quiet(self):
        told = self.yard.is_quiet(0), self.yard.is_quiet(1)
        for each in told:
            self.assertIs(type(each), bool)
        return told

    def test_from_an_ask_or_answer_to_the_next_bell(self):
        self.make(3, 2, 3)
        quiet = []
        for deed in [("ask", 5), ("drain", 0), ("collect",), ("bell", 1), ("ask", 5), ("bell", 0), ("take",),
                     ("answer", 0, 6), ("bell", 0), ("drain", 1), ("ask", 7), ("bell", 1), ("bell", 0)]:
            self.yard.deed(deed)
            quiet.append(self.quiet())
        loud = [(False, True)] * 5 + [(True, True)] * 2 + [(True, False)] * 3 + [(False, False), (False, True)]
        self.assertEqual(quiet, loud + [(True, True)])

    def test_not_by_lying_down(self):
        self.make(2, 2, 2, (), [("ask", 5), ("lie", 0), ("look", 0)])
        self.assertEqual(self.quiet(), (False, True))

    def test_not_by_what_is_refused(self):
        self.make(1, 2, 1)
        self.assert_refused(NoTask, ("answer", 0, 5))
        self.assertEqual(self.quiet(), (True, True))
        self.make(1, 2, 1, (), [("ask", 5), ("bell", 0)])
        self.assert_refused(Full, ("ask", 5))
        self.assertEqual(self.quiet(), (True, True))

    def test_a_bell_without_a_fence_is_a_bell(self):
        self.make(1, 2, 1, ("bell",), [("ask", 5), ("bell", 0)])
        self.assertEqual(self.quiet(), (True, True))


class CanBeDoneTest(YardCase):
    def test_a_new_yard(self):
        rest = [("collect",), ("take",), ("bell", 0), ("bell", 1), ("lie", 0), ("lie", 1)]
        self.make(1, 2, 1)
        for worths in ([], [5], [5, -3, 9], [9, 5]):
            told = self.yard.can_be_done(worths)
            self.assertIs(type(told), list)
            self.assertEqual(told, [("ask", worth) for worth in worths] + rest)

    def test_everything_at_once_in_the_told_order(self):
        deeds = [("ask", 1), ("ask", 1), ("ask", 1), ("bell", 0), ("take",), ("take",), ("take",), ("bell", 1),
                 ("answer", 1, 4), ("ask", 2)]
        self.make(3, 2, 4, (), deeds)
        bells = [("bell", 0), ("bell", 1), ("lie", 0), ("lie", 1), ("drain", 0), ("drain", 1)]
        self.assertEqual(self.yard.can_be_done([]), [("collect",), ("take",)] + bells)
        one = [("ask", 8), ("collect",), ("take",), ("answer", 0, 8), ("answer", 2, 8)]
        self.assertRaises(NoName, self.yard.deed, ("ask", 8))
        self.assertEqual(self.yard.can_be_done([8]), one[1:] + bells)
        self.make(3, 2, 5, (), deeds)
        self.assertEqual(self.yard.can_be_done([8]), one + bells)
        several = [("ask", 8), ("ask", -1), ("collect",), ("take",), ("answer", 0, 8), ("answer", 0, -1),
                   ("answer", 2, 8), ("answer", 2, -1)]
        self.assertEqual(self.yard.can_be_done([8, -1]), several + bells)

    def test_with_sides_that_lie_or_are_asleep(self):
        self.make(1, 2, 1, (), [("ask", 5), ("lie", 0)])
        with_heart = [("take",), ("bell", 1), ("lie", 1)]
        self.assertEqual(self.yard.can_be_done([5]), with_heart + [("look", 0)])
        self.yard.deed(("lie", 1))
        self.assertEqual(self.yard.can_be_done([5]), [("look", 0), ("look", 1)])
        self.yard.deed(("look", 0))
        self.assertEqual(self.yard.can_be_done([5]), [("look", 1)])
        self.yard.deed(("look", 1))
        with_heart.append(("drain", 1))
        self.assertEqual(self.yard.can_be_done([5]), with_heart)

    def test_with_nobody_up_nothing_can_be_done(self):
        self.make(1, 2, 1, (), [("lie", 0), ("look", 0), ("lie", 1), ("look", 1)])
        self.assertEqual(self.yard.can_be_done([5]), [])

    def test_not_where_a_ring_is_full(self):
        self.make(1, 2, 2, (), ONE_ROUND + [("ask", 7), ("bell", 0), ("take",)])
        told = [("collect",), ("take",), ("bell", 0), ("bell", 1), ("lie", 0), ("lie", 1), ("drain", 1)]
        self.assertEqual(self.yard.can_be_done([5]), told)

    def test_a_worth_that_is_refused_is_left_out(self):
        self.make(2, 2, 2, (), ONE_ROUND[:3])
        told = self.yard.can_be_done([10 ** 9 + 1, 10 ** 9, -10 ** 9, -10 ** 9 - 1])
        self.assertEqual(told[:2], [("ask", 10 ** 9), ("ask", -10 ** 9)])
        self.assertEqual(told[4:6], [("answer", 0, 10 ** 9), ("answer", 0, -10 ** 9)])

    def test_changes_nothing_and_the_list_is_the_askers_own(self):
        self.make(2, 2, 2, (), ONE_ROUND)
        told = self.all_told()
        first, second = self.yard.can_be_done([1, 2]), self.yard.can_be_done([1, 2])
        self.assertIsNot(first, second)
        first.clear()
        self.assertEqual(self.all_told(), told)
        self.yard.deed(("lie", 0))
        self.assertEqual(second, told[3])


class StoryAndStateTest(YardCase):
    def test_story(self):
        self.make(2, 2, 2, (), [("take",), ("collect",), ("ask", 5), ("ask", 6), ("bell", 0), ("take",), ("take",),
                                ("answer", 1, 7), ("collect",), ("bell", 1), ("collect",), ("lie", 0), ("look", 0)])
        told = self.yard.story()
        self.assertIs(type(told), list)
        self.assertEqual(told, [("asked", 0, 5), ("asked", 1, 6), ("taken", 0, 5), ("taken", 1, 6),
                                ("answered", 1, 7), ("handed", 1, 7)])

    def test_story_of_none_and_none(self):
        self.make(1, 2, 1, ("counter",), [("ask", 5), ("drain", 0)])
        self.assertEqual(self.yard.deed(("take",)), (None, None))
        self.assertEqual(self.yard.story(), [("asked", 0, 5), ("taken", None, None)])
        self.assertEqual(self.yard.state()[4], ())

    def test_told_lists_stay_as_they_were_told(self):
        self.make(2, 2, 2, (), ONE_ROUND)
        story, state = self.yard.story(), self.yard.state()
        wanted = [("asked", 0, 5), ("taken", 0, 5), ("answered", 0, 6)]
        kept = (((("answer", 0), (0, 6)), ("answered", 1), (("ask", 0), (0, 5)), ("asked", 1), ("taken", 1)),
                (), (), (0,), (), "up", "up")
        self.assertEqual(state, kept)
        for deed in [("collect",), ("ask", 7), ("lie", 1)]:
            self.yard.deed(deed)
        self.assertEqual((story, state), (wanted, kept))
        again = self.yard.story()
        self.assertIsNot(again, self.yard.story())
        again.clear()
        self.assertEqual(self.yard.story(), wanted + [("handed", 0, 6), ("asked", 0, 7)])

    def test_state_has_tuples_and_texts(self):
        self.make(2, 2, 2, (), ONE_ROUND[:4] + [("ask", 7)])
        state = self.yard.state()
        self.assertIs(type(state), tuple)
        self.assertEqual([type(part) for part in state], [tuple] * 5 + [str] * 2)
        for part in state[0] + state[1] + state[2]:
            self.assertIs(type(part), tuple)
            self.assertEqual(len(part), 2)

    def test_state_with_rows_names_and_tasks(self):
        self.make(2, 2, 3, (), ONE_ROUND[:3] + [("drain", 1), ("ask", 7), ("drain", 0), ("lie", 1), ("look", 1)])
        pairs = ((("ask", 0), (0, 5)), (("ask", 1), (1, 7)), ("asked", 1), ("heart sleeps", 1), ("taken", 1))
        self.assertEqual(self.yard.state(), (pairs, (("asked", 2),), (), (0, 1), (0,), "up", "asleep"))
        self.yard.deed(("bell", 0))
        pairs = pairs[:2] + (("asked", 2),) + pairs[3:]
        self.assertEqual(self.yard.state(), (pairs, (), (("heart sleeps", 0),), (0, 1), (0,), "up", "up"))

    def test_pairs_go_by_their_texts(self):
        self.make(12, 2, 12, (), [("ask", 1)] * 12 + [("lie", 0), ("take",), ("answer", 0, 2), ("lie", 1),
                                                      ("look", 0), ("collect",), ("drain", 0), ("drain", 0)])
        cells = [pair[0] for pair in self.yard.state()[0]]
        places = [0, 1, 10, 11, 2, 3, 4, 5, 6, 7, 8, 9]
        self.assertEqual(cells, [("answer", 0), "answered"] + [("ask", place) for place in places]
                         + ["asked", "handed", "heart sleeps", "taken"])

    def test_a_cell_that_is_0_again_is_left_out(self):
        self.make(1, 2, 1, (), [("lie", 0), ("look", 0), ("bell", 1), ("drain", 0)])
        self.assertEqual(self.yard.state(), ((), (), (), (), (), "up", "up"))
        for _ in range(2):
            for deed in ONE_ROUND + [("collect",), ("bell", 0)]:
                self.yard.deed(deed)
        self.assertEqual(self.yard.state()[0], ((("answer", 0), (0, 6)), (("ask", 0), (0, 5))))


class FaultsTest(YardCase):
    def test_bell_has_no_fence(self):
        self.make(1, 2, 1, ("bell",), [("lie", 1), ("look", 1), ("ask", 5)])
        row = self.waits(0)
        self.assertIs(self.yard.deed(("bell", 0)), True)
        self.assertEqual(self.waits(0), row)
        self.assertEqual(self.words(), ("up", "up"))
        self.assertEqual(self.yard.deed(("lie", 0)), None)
        self.assertEqual(self.waits(0), [])

    def test_bell_leaves_one_asleep_by_whom_something_waits(self):
        self.make(1, 2, 1, ("bell",), [("ask", 5), ("bell", 0), ("lie", 1), ("look", 1), ("drain", 0), ("drain", 0)])
        self.assertEqual(self.words(), ("up", "asleep"))
        self.assertTrue(self.yard.is_quiet(0))

    def test_counter_is_seen_ahead_of_its_place(self):
        self.make(1, 2, 2, ("counter",), [("ask", 5), ("drain", 0)])
        self.assertEqual(self.waits(0), [(("ask", 0), (0, 5))])
        self.assertEqual(self.yard.deed(("take",)), (None, None))
        self.make(1, 2, 2, ("counter",), ONE_ROUND[:3] + [("drain", 1), ("ask", 7), ("drain", 0)])
        self.assertEqual(self.yard.deed(("take",)), (0, 5))
        self.assertEqual(self.yard.state()[4], (0,))
        self.assertEqual(self.yard.story()[-1], ("taken", 0, 5))

    def test_counter_of_answers(self):
        self.make(1, 2, 1, ("counter",), ONE_ROUND[:4] + [("drain", 1), ("drain", 1)])
        self.assertEqual(self.waits(1), [(("answer", 0), (0, 6))])
        self.assertEqual(self.yard.deed(("collect",)), (None, None))
        self.assertEqual(self.yard.story()[-1], ("handed", None, None))
        self.assertEqual(self.yard.state()[3], (0,))

    def test_lie_has_no_fence(self):
        self.make(1, 2, 1, ("lie",), [("ask", 5)])
        row = self.waits(0)
        self.assertIsNone(self.yard.deed(("lie", 0)))
        self.assertEqual(self.waits(0), row + [("hand sleeps", 1)])
        self.assertEqual(self.yard.sleeper(0), "lies")
        self.make(1, 2, 1, ("lie",), [("lie", 1), ("look", 1), ("ask", 5)])
        self.assertIs(self.yard.deed(("bell", 0)), False)
        self.assertEqual(self.words(), ("up", "asleep"))
        self.assertEqual(self.waits(1), [("heart sleeps", 1)])

    def test_look_falls_asleep_whatever_waits(self):
        for side, deeds in ((0, ONE_ROUND), (1, ONE_ROUND[:2])):
            self.make(1, 2, 1, ("look",), deeds + [("lie", side)])
            self.assertIs(self.yard.deed(("look", side)), False)
            self.assertEqual(self.yard.sleeper(side), "asleep")
            self.assertEqual(self.waits(side), [])

    def test_round_overwrites_and_is_never_full(self):
        self.make(1, 2, 3, ("round",), [("ask", 5), ("ask", 6), ("ask", 7), ("bell", 0)])
        self.assertIsNone(self.yard.deed(("take",)))
        self.assertEqual(self.yard.state()[0], ((("ask", 0), (2, 7)),))
        self.assertRaises(NoName, self.yard.deed, ("ask", 8))
        self.make(2, 2, 3, ("round",), [("ask", 5), ("ask", 6), ("ask", 7), ("bell", 0)])
        self.assertEqual(self.yard.deed(("take",)), (2, 7))
        self.assertIsNone(self.yard.deed(("take",)))
        self.assertEqual(self.yard.deed(("lie", 1)), None)
        self.assertIs(self.yard.deed(("look", 1)), False)

    def test_each_fault_does_its_own_alone(self):
        run = [("ask", 5), ("drain", 0), ("drain", 0), ("take",), ("bell", 1), ("ask", 6), ("drain", 0), ("drain", 0),
               ("lie", 1), ("look", 1)]
        told = {}
        for fault in ("none", "bell", "counter", "lie", "look", "round"):
            yard = Yard(2, 2, 2, (fault,) if fault != "none" else ())
            told[fault] = [(yard.deed(deed), yard.state()) for deed in run]
        first_other = {}
        for fault in ("bell", "counter", "lie", "look", "round"):
            others = [number for number in range(len(run)) if told[fault][number] != told["none"][number]]
            first_other[fault] = others[0]
        self.assertEqual(first_other, {"bell": 4, "counter": 0, "lie": 8, "look": 9, "round": 5})

    def test_several_at_once(self):
        every = ("bell", "counter", "lie", "look", "round")
        self.make(1, 2, 2, every, [("ask", 5), ("ask", 6), ("bell", 0), ("lie", 0)])
        row = [("asked", 0), (("ask", 0), (0, 5)), ("asked", 0), (("ask", 0), (1, 6)), ("hand sleeps", 1)]
        self.assertEqual(self.waits(0), row)
        self.assertIs(self.yard.deed(("look", 0)), False)
        self.assertIs(self.yard.deed(("bell", 1)), False)
        self.assertEqual(self.words(), ("asleep", "up"))
        self.make(1, 2, 1, ("lie", "look"), ONE_ROUND[:2] + [("lie", 1)])
        self.assertEqual(self.waits(1), [("heart sleeps", 1)])
        self.assertIs(self.yard.deed(("look", 1)), False)

    def test_the_refusals_are_ring_errors(self):
        self.make(1, 2, 1, (), [("ask", 5)])
        for some in (None, ("ask", 5), ("answer", 0, 5), ("look", 0), ("drain", 1)):
            self.assert_refused(RingError, some)


if __name__ == "__main__":
    unittest.main()
