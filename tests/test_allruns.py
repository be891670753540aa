import itertools
import unittest

from askring.allruns import errs, first_erring, mark_of
from askring.yards import Yard

FAULTS = ("bell", "counter", "lie", "look", "round")
ASK = [("ask", 5), ("bell", 0)]
ANSWER = ASK + [("take",), ("answer", 0, 6), ("bell", 1)]
SHORTEST = {
    "bell": [("ask", 5), ("bell", 0), ("lie", 1), ("look", 1), ("lie", 0)],
    "counter": [("ask", 5), ("drain", 0), ("take",)],
    "lie": [("ask", 5), ("lie", 1), ("look", 1), ("bell", 0), ("drain", 1)],
    "look": [("ask", 5), ("bell", 0), ("lie", 1), ("look", 1)],
    "round": [("ask", 5), ("bell", 0)],
}


def some_faults(most):
    return [faults for many in range(most + 1) for faults in itertools.combinations(FAULTS, many)]


class ErrsCase(unittest.TestCase):
    def make(self, size, names, faults, deeds=()):
        self.yard = Yard(size, 2, names, faults)
        for deed in deeds:
            self.yard.deed(deed)

    def all_told(self):
        store = self.yard.store()
        rows = store.waits(0), store.waits(1)
        quiet = self.yard.is_quiet(0), self.yard.is_quiet(1)
        return self.yard.state(), self.yard.story(), quiet, rows, self.yard.can_be_done([1])

    def errs(self):
        """Asked twice: looking at a yard changes nothing."""
        told = self.all_told()
        first, second = errs(self.yard), errs(self.yard)
        self.assertIs(type(first), bool)
        self.assertIs(first, second)
        self.assertEqual(self.all_told(), told)
        return first

    def along(self, deeds):
        """Whether the yard errs behind each of the deeds."""
        told = []
        for deed in deeds:
            self.yard.deed(deed)
            told.append(self.errs())
        return told

    def nothing_waits(self):
        return self.yard.store().waits(0) == [] and self.yard.store().waits(1) == []


class ErrsTest(ErrsCase):
    def test_a_new_yard_does_not(self):
        for size, rounds, faults in itertools.product((1, 8), (2, 4), some_faults(5)):
            self.assertIs(errs(Yard(size, rounds, 1, faults)), False)

    def test_a_yard_without_faults_does_not(self):
        self.make(1, 2, ())
        deeds = ANSWER + [("bell", 0), ("ask", 7), ("lie", 1), ("look", 1), ("drain", 0), ("drain", 0), ("bell", 0),
                          ("take",), ("collect",), ("lie", 0), ("look", 0), ("answer", 1, 8), ("bell", 1)]
        self.assertEqual(self.along(deeds), [False] * len(deeds))

    def test_full_rings_do_not(self):
        self.make(2, 2, (), [("ask", 5), ("ask", 6), ("bell", 0)])
        self.assertFalse(self.errs())
        for deed in [("take",), ("take",), ("answer", 1, 7), ("answer", 0, 8), ("bell", 1), ("bell", 0)]:
            self.yard.deed(deed)
        self.assertTrue(self.nothing_waits())
        self.assertFalse(self.errs())


class StoryErrsTest(ErrsCase):
    def test_taken_wrong_with_rows_that_wait(self):
        self.make(1, 1, ("counter",))
        self.assertEqual(self.along([("ask", 5), ("drain", 0), ("take",)]), [False, False, True])
        self.assertNotEqual(self.yard.store().waits(0), [])

    def test_taken_wrong_with_none_that_wait(self):
        self.make(1, 1, ("counter",), [("ask", 5), ("drain", 0), ("take",)])
        self.assertEqual(self.along([("drain", 0), ("drain", 1)]), [True, True])
        self.assertTrue(self.nothing_waits())
        self.assertEqual(self.yard.story(), [("asked", 0, 5), ("taken", None, None)])

    def test_an_old_one_taken(self):
        self.make(1, 2, ("counter",), ASK + [("take",), ("bell", 1), ("ask", 7), ("drain", 0)])
        self.assertFalse(self.errs())
        self.yard.deed(("take",))
        self.assertTrue(self.errs())

    def test_handed_wrong(self):
        self.make(1, 1, ("counter",), ASK + [("take",), ("answer", 0, 6), ("drain", 1), ("drain", 1)])
        self.assertEqual(self.along([("collect",), ("bell", 0), ("bell", 1)]), [True, True, True])
        self.assertTrue(self.nothing_waits())

    def test_it_stays_so(self):
        self.make(2, 3, ("counter",), [("ask", 5), ("drain", 0), ("take",), ("bell", 0), ("bell", 1)])
        deeds = [("ask", 6), ("bell", 0), ("take",), ("answer", 1, 7), ("bell", 1), ("collect",), ("bell", 0)]
        self.assertEqual(self.along(deeds), [True] * len(deeds))


class CountersErrTest(ErrsCase):
    def test_asks_that_none_can_see(self):
        self.make(1, 1, ("round",))
        self.assertEqual(self.along([("ask", 5), ("drain", 0), ("drain", 0)]), [False, False, True])
        self.assertEqual((self.yard.sleeper(0), self.yard.sleeper(1)), ("up", "up"))

    def test_the_other_row_counts_too(self):
        self.make(1, 1, ("lie", "round"), [("lie", 1), ("ask", 5)])
        self.assertEqual(self.along([("bell", 0), ("drain", 1)]), [False, True])

    def test_asks_fewer_than_told(self):
        self.make(2, 3, ("round",), [("ask", 5), ("ask", 6), ("ask", 7)])
        self.assertFalse(self.errs())
        self.yard.deed(("bell", 0))
        self.assertEqual(self.yard.store().memory("asked"), 1)
        self.assertTrue(self.errs())

    def test_counters_that_go_round_at_the_size_do_not_err_by_it(self):
        self.make(2, 3, ("round",))
        deeds = [("ask", 5), ("bell", 0), ("take",), ("bell", 1), ("ask", 6), ("bell", 0), ("take",), ("bell", 1),
                 ("ask", 7), ("bell", 0)]
        self.assertEqual(self.along(deeds), [False] * len(deeds))
        self.assertEqual((self.yard.store().memory("asked"), self.yard.store().memory("taken")), (1, 0))

    def test_answers_that_none_can_see(self):
        self.make(2, 2, ("round",))
        deeds = [("ask", 5), ("bell", 0), ("take",), ("bell", 1), ("ask", 6), ("bell", 0), ("take",), ("bell", 1),
                 ("answer", 0, 7), ("bell", 1), ("answer", 1, 8), ("drain", 1)]
        self.assertEqual(self.along(deeds), [False] * len(deeds))
        self.yard.deed(("drain", 1))
        self.assertTrue(self.nothing_waits())
        self.assertTrue(self.errs())

    def test_rounds_of_the_yard_are_looked_at(self):
        for rounds in (2, 3, 4):
            yard = Yard(1, rounds, 1, ())
            for deed in (ANSWER + [("collect",), ("bell", 0)]) * 5:
                yard.deed(deed)
                self.assertFalse(errs(yard))


class SleepersErrTest(ErrsCase):
    def test_the_heart_sleeps(self):
        self.make(1, 1, ("look",))
        self.assertEqual(self.along(ASK + [("lie", 1), ("look", 1)]), [False, False, False, True])
        self.assertTrue(self.nothing_waits())

    def test_the_hand_sleeps(self):
        self.make(1, 1, ("look",))
        self.assertEqual(self.along(ANSWER + [("lie", 0), ("look", 0)]), [False] * 6 + [True])
        self.assertTrue(self.nothing_waits())

    def test_not_while_a_row_waits(self):
        self.make(1, 1, ("lie", "look"), ASK + [("lie", 1), ("look", 1)])
        self.assertEqual(self.yard.store().waits(1), [("heart sleeps", 1)])
        self.assertFalse(self.errs())
        self.yard.deed(("drain", 1))
        self.assertTrue(self.errs())
        self.make(1, 1, ("bell",), [("ask", 5), ("bell", 0), ("lie", 1), ("look", 1)])
        self.assertEqual(self.along([("drain", 0), ("drain", 0)]), [False, True])
        self.make(1, 1, ("lie", "look"), ANSWER + [("lie", 0), ("look", 0)])
        self.assertEqual(self.along([("drain", 0)] * len(self.yard.store().waits(0))), [True])

    def test_not_where_the_other_side_has_still_to_ring(self):
        self.make(1, 1, ("look",), [("ask", 5), ("drain", 0), ("drain", 0), ("lie", 1), ("look", 1)])
        self.assertTrue(self.nothing_waits())
        self.assertFalse(self.errs())
        self.make(1, 1, ("look",), ANSWER[:4] + [("drain", 1)] * 3 + [("lie", 0), ("look", 0)])
        self.assertTrue(self.nothing_waits())
        self.assertFalse(self.errs())

    def test_by_the_other_sides_bell_not_by_its_own(self):
        # The heart answered and has still to ring, but it is the hand that lets the heart sleep.
        deeds = ANSWER[:4] + [("ask", 6), ("bell", 0), ("lie", 1), ("look", 1)]
        self.make(2, 2, ("look",), deeds)
        self.assertEqual((self.yard.is_quiet(0), self.yard.is_quiet(1)), (True, False))
        self.assertTrue(self.nothing_waits())
        self.assertTrue(self.errs())

    def test_not_where_nothing_waits_for_it(self):
        for faults in ((), ("look",)):
            self.make(1, 1, faults)
            self.assertEqual(self.along([("lie", 0), ("look", 0), ("lie", 1), ("look", 1)]), [False] * 4)

    def test_what_waits_for_the_other_side_does_not_count(self):
        self.make(1, 1, ("look",), ASK + [("lie", 0), ("look", 0)])
        self.assertTrue(self.nothing_waits())
        self.assertFalse(self.errs())
        self.make(1, 1, ("look",), ANSWER + [("lie", 1), ("look", 1)])
        self.assertTrue(self.nothing_waits())
        self.assertFalse(self.errs())

    def test_not_where_it_only_lies(self):
        self.make(1, 1, ("look",), ASK + [("lie", 1)])
        self.assertEqual(self.yard.sleeper(1), "lies")
        self.assertFalse(self.errs())
        self.make(1, 1, ("look",), ANSWER + [("lie", 0)])
        self.assertFalse(self.errs())

    def test_no_more_when_it_is_rung(self):
        self.make(1, 1, ("look",), ASK + [("lie", 1), ("look", 1)])
        self.assertTrue(self.errs())
        self.assertEqual(self.along([("bell", 0), ("drain", 1)]), [False, False])

    def test_both_sleep(self):
        self.make(2, 2, ("look",), ANSWER + [("ask", 7), ("bell", 0), ("lie", 0), ("lie", 1), ("look", 0)])
        self.assertTrue(self.errs())
        self.yard.deed(("look", 1))
        self.assertTrue(self.errs())


class MarkTest(unittest.TestCase):
    def test_of_one_state_where_a_side_has_still_to_ring(self):
        for rows, sleeps in (((ASK, ASK[:1] + [("drain", 0)] * 2), [("lie", 1), ("look", 1)]),
                             ((ANSWER, ANSWER[:4] + [("drain", 1)] * 3), [("lie", 0), ("look", 0)])):
            one, other = [after(1, 2, 1, ("look",), row) for row in rows]
            self.assertEqual(one.state(), other.state())
            self.assertNotEqual(mark_of(one), mark_of(other))
            told = [errs(after(1, 2, 1, ("look",), row + sleeps)) for row in rows]
            self.assertEqual(told, [True, False])

    def test_of_one_state_with_other_asks_or_answers_left(self):
        # The row of the heart waits all the while, so that the counters aren't judged yet.
        asks = [("lie", 1), ("ask", 5), ("ask", 6), ("bell", 0)]
        rows = [asks, [("lie", 1), ("ask", 9), ("ask", 6), ("bell", 0)]]
        one, other = [after(1, 2, 2, ("lie", "round"), row) for row in rows]
        self.assertEqual(one.state(), other.state())
        self.assertNotEqual(mark_of(one), mark_of(other))

    def test_of_yards_that_came_to_the_same_by_other_rows(self):
        one = after(1, 2, 1, (), ASK + [("take",), ("bell", 1)])
        for row in ([("take",)] + ASK + [("collect",), ("take",), ("drain", 1)],
                    [("lie", 1), ("look", 1)] + ASK + [("drain", 1), ("take",), ("bell", 1)]):
            self.assertEqual(mark_of(after(1, 2, 1, (), row)), mark_of(one))
        self.assertNotEqual(mark_of(after(1, 2, 1, (), ASK)), mark_of(one))


def first_of_all_rows(size, rounds, names, faults, worths, many):
    """Point 21 as it stands: each row by itself, none left out."""
    rows = [[]]
    for _ in range(many):
        longer = []
        for row in rows:
            for deed in after(size, rounds, names, faults, row).can_be_done(worths):
                longer.append(row + [deed])
        for row in longer:
            if errs(after(size, rounds, names, faults, row)):
                return row
        rows = longer
    return None


def after(size, rounds, names, faults, row):
    yard = Yard(size, rounds, names, faults)
    for deed in row:
        yard.deed(deed)
    return yard


class FirstErringTest(unittest.TestCase):
    def test_each_fault_has_its_first(self):
        for fault, size, rounds in itertools.product(FAULTS, (1, 2, 3), (2, 4)):
            names, wanted = size, SHORTEST[fault]
            if fault == "round":
                wanted = [("ask", 5)] * size + [("bell", 0)]
            with self.subTest(fault=fault, size=size, rounds=rounds):
                told = first_erring(size, rounds, names, (fault,), [5], 7)
                self.assertIs(type(told), list)
                self.assertEqual(told, wanted)
                self.assertEqual({type(deed) for deed in told}, {tuple})

    def test_none_shorter_and_no_other_one_with_more_deeds(self):
        for fault in FAULTS:
            least = len(SHORTEST[fault])
            for many in range(least):
                self.assertIsNone(first_erring(1, 2, 1, (fault,), [5], many), fault)
            for many in (least, least + 1, 2000):
                self.assertEqual(first_erring(1, 2, 1, (fault,), [5], many), SHORTEST[fault])

    def test_it_errs_at_its_end_and_not_ahead_of_it(self):
        for size, faults in itertools.product((1, 2), some_faults(5)[1:]):
            row = first_erring(size, 2, 2, faults, [5], 9)
            told = [errs(after(size, 2, 2, faults, row[:many])) for many in range(len(row) + 1)]
            self.assertEqual(told, [False] * len(row) + [True], (size, faults))

    def test_as_if_every_row_were_gone_through(self):
        for size, names, faults in itertools.product((1, 2), (1, 2), some_faults(2)):
            with self.subTest(size=size, names=names, faults=faults):
                for worths in ([5], [6, 5]):
                    wanted = first_of_all_rows(size, 2, names, faults, worths, 4)
                    self.assertEqual(first_erring(size, 2, names, faults, worths, 4), wanted)

    def test_as_if_every_longer_row_were_gone_through(self):
        for faults in (("bell",), ("lie",), ()):
            wanted = first_of_all_rows(1, 2, 1, faults, [5], 5)
            self.assertEqual(first_erring(1, 2, 1, faults, [5], 5), wanted)

    def test_several_faults(self):
        self.assertEqual(first_erring(1, 2, 1, FAULTS, [5], 9), [("ask", 5), ("drain", 0), ("drain", 0)])
        self.assertEqual(first_erring(2, 2, 2, ("bell", "counter"), [5], 9), SHORTEST["counter"])

    def test_the_first_of_the_worths_goes_first(self):
        for worths in ([5, 9], [9, 5], [-3, 9, 5], [10 ** 9, -10 ** 9]):
            self.assertEqual(first_erring(1, 2, 1, ("round",), worths, 3), [("ask", worths[0]), ("bell", 0)])
        self.assertEqual(first_erring(2, 2, 2, ("round",), [7, 5], 3), [("ask", 7), ("ask", 7), ("bell", 0)])

    def test_no_deeds(self):
        for faults in some_faults(5):
            self.assertIsNone(first_erring(1, 2, 1, faults, [5], 0))

    def test_no_worths(self):
        for faults in some_faults(1):
            self.assertIsNone(first_erring(1, 2, 1, faults, [], 7))
        self.assertIsNone(first_erring(1, 2, 1, ("look",), [], 2000))

    def test_none_where_a_fault_can_do_no_harm(self):
        # With fewer names than places no ring is ever full, so that going round at the size is enough.
        self.assertIsNone(first_erring(2, 2, 1, ("round",), [5], 2000))
        self.assertIsNone(first_erring(3, 2, 2, ("round",), [5], 9))
        self.assertEqual(first_erring(3, 2, 3, ("round",), [5], 9), [("ask", 5)] * 3 + [("bell", 0)])

    def test_a_long_first_one(self):
        self.assertEqual(first_erring(8, 4, 9, ("round",), [5], 9), [("ask", 5)] * 8 + [("bell", 0)])
        self.assertIsNone(first_erring(8, 4, 9, ("round",), [5], 8))

    def test_none_without_faults_in_all_runs_of_the_smallest_rings(self):
        # So many deeds that no new state is left to come to.
        for size, rounds, names, worths in ((1, 2, 1, [5]), (1, 3, 1, [5]), (1, 2, 2, [5]), (1, 2, 1, [5, 6])):
            self.assertIsNone(first_erring(size, rounds, names, (), worths, 2000))

    def test_none_without_faults(self):
        for size, rounds, names, worths, many in ((2, 2, 2, [5], 11), (2, 2, 2, [5, 6], 8), (2, 3, 3, [5], 9),
                                                  (3, 2, 3, [5], 9), (8, 4, 9, [5], 8), (1, 2, 9, [1, 2, 3], 6)):
            self.assertIsNone(first_erring(size, rounds, names, (), worths, many))

    def test_what_is_handed_in_stays(self):
        for faults, many in ((("look",), 5), ((), 4)):
            worths = [5, -2, 7]
            first_erring(1, 2, 1, faults, worths, many)
            self.assertEqual(worths, [5, -2, 7])

    def test_what_is_told_is_the_askers_own(self):
        worths = [5]
        told = first_erring(1, 2, 1, ("look",), worths, 5)
        again = first_erring(1, 2, 1, ("look",), worths, 5)
        self.assertIsNot(told, again)
        told.clear()
        worths.clear()
        self.assertEqual(again, SHORTEST["look"])
        self.assertEqual(first_erring(1, 2, 1, ("look",), [5], 5), SHORTEST["look"])


if __name__ == "__main__":
    unittest.main()
