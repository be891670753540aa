import unittest

from askring.errors import Full, NoTask, RingError
from askring.hearts import Heart
from askring.stores import Store

MAKES = [(size, rounds) for size in range(1, 9) for rounds in range(2, 5)]


class HeartCase(unittest.TestCase):
    def make(self, size, rounds, faults=()):
        self.store = Store()
        self.heart = Heart(self.store, size, rounds, faults)

    def put(self, *writes):
        """What a hand wrote, in the memory already."""
        for write in writes:
            self.store.write(0, *write)
        self.store.fence(0)

    def make_with_tasks(self, size, rounds, names, faults=()):
        self.make(size, rounds, faults)
        for name in names:
            counter = self.store.read(1, "taken")
            further = (counter + 1) % (size if "round" in faults else size * rounds)
            self.put((("ask", counter % size), (name, 0)), ("asked", further))
            self.heart.take()
        self.store.fence(1)

    def all_told(self):
        memory = {cell: self.store.memory(cell) for cell in self.store.cells()}
        return self.store.waits(0), self.store.waits(1), memory, self.heart.tasks()

    def assert_refused(self, refusal, name):
        told = self.all_told()
        for _ in range(2):
            self.assertRaises(refusal, self.heart.answer, name, 1)
            self.assertEqual(self.all_told(), told)


class TakeTest(HeartCase):
    def test_none_where_nothing_was_asked(self):
        self.make(2, 2)
        for _ in range(2):
            self.assertIsNone(self.heart.take())
        self.assertEqual(self.all_told(), ([], [], {}, []))

    def test_none_till_the_heart_reads_the_counter(self):
        self.make(2, 2)
        self.store.write(0, ("ask", 0), (0, 5))
        self.store.write(0, "asked", 1)
        for _ in range(2):
            self.assertIsNone(self.heart.take())
            self.store.drain(0)
        self.assertEqual(self.store.waits(1), [])
        self.assertEqual(self.heart.take(), (0, 5))

    def test_tells_what_stands_there_and_writes_taken_alone(self):
        self.make(2, 2)
        self.put((("ask", 0), (4, 5)), (("ask", 1), (1, -6)), ("asked", 2))
        told = self.heart.take()
        self.assertIs(type(told), tuple)
        self.assertEqual(told, (4, 5))
        self.assertEqual(self.store.waits(1), [("taken", 1)])
        self.assertEqual(self.heart.tasks(), [4])
        self.assertEqual(self.heart.take(), (1, -6))
        self.assertEqual(self.store.waits(1), [("taken", 1), ("taken", 2)])
        self.assertEqual(self.store.waits(0), [])
        self.assertEqual(self.heart.tasks(), [1, 4])
        self.assertIsNone(self.heart.take())
        self.assertEqual(self.store.waits(1), [("taken", 1), ("taken", 2)])
        self.assertEqual(self.heart.tasks(), [1, 4])

    def test_what_is_no_tuple_is_none_and_none_and_becomes_no_task(self):
        self.make(2, 2, ("counter",))
        self.put(("asked", 1))
        told = self.heart.take()
        self.assertIs(type(told), tuple)
        self.assertEqual(told, (None, None))
        self.assertEqual(self.store.waits(1), [("taken", 1)])
        self.assertEqual(self.heart.tasks(), [])

    def test_an_old_tuple_as_it_is_and_a_task_stays_one(self):
        self.make(1, 2, ("counter",))
        self.put((("ask", 0), (0, 5)), ("asked", 1))
        self.assertEqual(self.heart.take(), (0, 5))
        self.put(("asked", 0))
        self.assertEqual(self.heart.take(), (0, 5))
        self.assertEqual(self.heart.tasks(), [0])
        self.heart.answer(0, 1)
        self.assertEqual(self.heart.tasks(), [])
        self.put(("asked", 1))
        self.assertEqual(self.heart.take(), (0, 5))
        self.assertEqual(self.heart.tasks(), [0])

    def test_a_full_ring(self):
        for size, rounds in MAKES:
            self.make(size, rounds)
            for place in range(size):
                self.put((("ask", place), (place, 50 + place)), ("asked", place + 1))
            self.assertEqual([self.heart.take() for _ in range(size)], [(at, 50 + at) for at in range(size)])
            self.assertIsNone(self.heart.take())


class AnswerTest(HeartCase):
    def test_writes_the_place_then_the_counter_and_tells_nothing(self):
        self.make_with_tasks(2, 2, [0, 1])
        self.assertIsNone(self.heart.answer(1, 5))
        self.assertEqual(self.store.waits(1), [(("answer", 0), (1, 5)), ("answered", 1)])
        self.assertEqual(self.heart.tasks(), [0])
        self.assertIsNone(self.heart.answer(0, -10 ** 9))
        row = [(("answer", 0), (1, 5)), ("answered", 1), (("answer", 1), (0, -10 ** 9)), ("answered", 2)]
        self.assertEqual(self.store.waits(1), row)
        self.assertEqual(self.store.waits(0), [])
        self.assertEqual(self.heart.tasks(), [])

    def test_no_task(self):
        self.make(2, 2)
        self.assert_refused(NoTask, 0)
        self.make_with_tasks(2, 2, [0, 2])
        for name in (1, 3, -1, 10 ** 12):
            self.assert_refused(NoTask, name)
        self.heart.answer(0, 5)
        self.assert_refused(NoTask, 0)

    def test_an_ask_that_was_not_taken_is_no_task(self):
        self.make(2, 2)
        self.put((("ask", 0), (0, 5)), ("asked", 1))
        self.assert_refused(NoTask, 0)

    def test_full_at_the_size(self):
        for size, rounds in MAKES:
            with self.subTest(size=size, rounds=rounds):
                self.make_with_tasks(size, rounds, range(size + 1))
                for name in range(size):
                    self.heart.answer(name, 1)
                self.assert_refused(Full, size)
                self.store.fence(1)
                self.assert_refused(Full, size)

    def test_full_till_the_heart_reads_that_one_was_handed(self):
        self.make_with_tasks(2, 2, [0, 1, 2, 3])
        self.heart.answer(3, 1)
        self.heart.answer(0, 1)
        self.store.write(0, "handed", 1)
        self.assert_refused(Full, 1)
        self.store.drain(0)
        self.heart.answer(1, 9)
        self.assertEqual(self.store.waits(1)[-2:], [(("answer", 0), (1, 9)), ("answered", 3)])
        self.assertEqual(self.heart.tasks(), [2])
        self.assert_refused(Full, 2)

    def test_no_task_goes_ahead_of_full(self):
        self.make_with_tasks(1, 2, [0, 1])
        self.heart.answer(0, 1)
        self.assert_refused(NoTask, 0)
        self.assert_refused(NoTask, 7)
        self.assert_refused(Full, 1)

    def test_the_refusals_are_ring_errors(self):
        self.make_with_tasks(1, 2, [0, 1])
        self.heart.answer(0, 1)
        for name in (0, 1):
            self.assert_refused(RingError, name)


class RoundTest(HeartCase):
    def test_past_size_times_rounds(self):
        for size, rounds in MAKES:
            with self.subTest(size=size, rounds=rounds):
                self.make(size, rounds)
                for step in range(3 * size * rounds):
                    further = (step + 1) % (size * rounds)
                    self.assertIsNone(self.heart.take())
                    self.put((("ask", step % size), (step % 3, step)), ("asked", further))
                    self.assertEqual(self.heart.take(), (step % 3, step))
                    self.heart.answer(step % 3, -step)
                    row = [("taken", further), (("answer", step % size), (step % 3, -step)), ("answered", further)]
                    self.assertEqual(self.store.waits(1), row)
                    self.store.fence(1)
                    self.put(("handed", further))

    def test_full_from_wherever_it_begins(self):
        for size, rounds in MAKES:
            self.make_with_tasks(size, rounds, range(3 * size * rounds))
            name = 0
            for step in range(2 * size * rounds):
                while name < step + size:
                    self.heart.answer(name, 0)
                    name += 1
                self.assertRaises(Full, self.heart.answer, name, 0)
                self.put(("handed", (step + 1) % (size * rounds)))


class FaultsTest(HeartCase):
    def test_counter_is_written_ahead_of_the_place(self):
        self.make_with_tasks(2, 2, [0, 1, 2], ("counter",))
        self.heart.answer(1, 5)
        self.heart.answer(0, 6)
        row = [("answered", 1), (("answer", 0), (1, 5)), ("answered", 2), (("answer", 1), (0, 6))]
        self.assertEqual(self.store.waits(1), row)
        self.assert_refused(Full, 2)

    def test_round_goes_round_at_the_size_and_is_never_full(self):
        for size in (2, 3, 8):
            self.make_with_tasks(size, 4, range(3 * size), ("round",))
            self.assertEqual(self.heart.tasks(), list(range(3 * size)))
            for step in range(3 * size):
                self.heart.answer(step, 7)
                row = [(("answer", step % size), (step, 7)), ("answered", (step + 1) % size)]
                self.assertEqual(self.store.waits(1)[-2:], row)

    def test_round_takes_till_the_counters_are_the_same(self):
        self.make(2, 2, ("round",))
        self.put((("ask", 0), (0, 1)), (("ask", 1), (1, 2)), ("asked", 1))
        self.assertEqual(self.heart.take(), (0, 1))
        self.assertIsNone(self.heart.take())
        self.put(("asked", 0))
        self.assertEqual(self.heart.take(), (1, 2))
        self.assertEqual(self.store.waits(1), [("taken", 1), ("taken", 0)])

    def test_both_at_once(self):
        self.make_with_tasks(2, 2, [0, 1], ("counter", "round"))
        self.heart.answer(1, 5)
        self.heart.answer(0, 6)
        row = [("answered", 1), (("answer", 0), (1, 5)), ("answered", 0), (("answer", 1), (0, 6))]
        self.assertEqual(self.store.waits(1), row)

    def test_the_other_ones_are_not_looked_at(self):
        self.make_with_tasks(1, 2, [0, 1], ("bell", "lie", "look"))
        self.heart.answer(0, 5)
        self.assertEqual(self.store.waits(1), [(("answer", 0), (0, 5)), ("answered", 1)])
        self.assert_refused(Full, 1)


class TasksTest(HeartCase):
    def test_the_list_is_the_askers_own(self):
        self.make(2, 2)
        self.assertEqual(self.heart.tasks(), [])
        self.make_with_tasks(2, 2, [1, 0])
        first, second = self.heart.tasks(), self.heart.tasks()
        self.assertIs(type(first), list)
        self.assertEqual(first, [0, 1])
        self.assertIsNot(first, second)
        first.append(3)
        second.clear()
        told = self.heart.tasks()
        self.assertEqual(told, [0, 1])
        self.heart.answer(0, 1)
        self.assertEqual(told, [0, 1])
        self.assertEqual(self.heart.tasks(), [1])

    def test_two_hearts_have_nothing_in_common(self):
        self.make_with_tasks(2, 2, [0])
        self.assertEqual(Heart(Store(), 2, 2, ()).tasks(), [])


if __name__ == "__main__":
    unittest.main()
