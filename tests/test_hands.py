import unittest

from askring.errors import Full, NoName, RingError
from askring.hands import Hand
from askring.stores import Store

MAKES = [(size, rounds) for size in range(1, 9) for rounds in range(2, 5)]


def made(size, rounds, names, faults=()):
    store = Store()
    return store, Hand(store, size, rounds, names, faults)


def seen(store, hand):
    """All that a hand can change, as one value that can be compared."""
    cells = sorted(store.cells(), key=repr)
    return store.waits(0), store.waits(1), [(cell, store.memory(cell)) for cell in cells], hand.under_way()


def put(store, *writes):
    """What a heart wrote, in the memory already."""
    for cell, worth in writes:
        store.write(1, cell, worth)
    store.fence(1)


class AskTest(unittest.TestCase):
    def test_writes_the_place_then_the_counter_and_tells_the_name(self):
        store, hand = made(2, 2, 3)
        told = hand.ask(5)
        self.assertIs(type(told), int)
        self.assertEqual(told, 0)
        self.assertEqual(seen(store, hand), ([(("ask", 0), (0, 5)), ("asked", 1)], [], [], [0]))
        self.assertEqual(hand.ask(-7), 1)
        row = [(("ask", 0), (0, 5)), ("asked", 1), (("ask", 1), (1, -7)), ("asked", 2)]
        self.assertEqual(seen(store, hand), (row, [], [], [0, 1]))

    def test_worths_at_the_bounds_and_beyond(self):
        for worth in (0, -10 ** 9, 10 ** 9, 10 ** 9 + 1):
            store, hand = made(1, 2, 1)
            self.assertEqual(hand.ask(worth), 0)
            self.assertEqual(store.waits(0)[0], (("ask", 0), (0, worth)))

    def test_full_at_the_size(self):
        for size, rounds in MAKES:
            with self.subTest(size=size, rounds=rounds):
                store, hand = made(size, rounds, 12)
                self.assertEqual([hand.ask(9) for _ in range(size)], list(range(size)))
                looks = seen(store, hand)
                for _ in range(2):
                    self.assertRaises(Full, hand.ask, 9)
                    self.assertEqual(seen(store, hand), looks)
                store.fence(0)
                self.assertRaises(Full, hand.ask, 9)

    def test_full_till_the_hand_reads_that_one_was_taken(self):
        store, hand = made(2, 2, 9)
        hand.ask(1)
        hand.ask(2)
        store.write(1, "taken", 1)
        self.assertRaises(Full, hand.ask, 3)
        store.drain(1)
        self.assertEqual(hand.ask(3), 2)
        self.assertEqual(store.waits(0)[-2:], [(("ask", 0), (2, 3)), ("asked", 3)])
        self.assertRaises(Full, hand.ask, 4)

    def test_no_name_where_all_are_under_way(self):
        for names in (1, 2, 9):
            with self.subTest(names=names):
                store, hand = made(names + 1, 2, names)
                self.assertEqual([hand.ask(9) for _ in range(names)], list(range(names)))
                looks = seen(store, hand)
                for _ in range(2):
                    self.assertRaises(NoName, hand.ask, 9)
                    self.assertEqual(seen(store, hand), looks)

    def test_no_name_though_all_asks_were_taken(self):
        store, hand = made(2, 2, 2)
        hand.ask(1)
        hand.ask(2)
        put(store, ("taken", 2))
        self.assertRaises(NoName, hand.ask, 3)

    def test_full_goes_ahead_of_no_name(self):
        for size in (1, 2, 8):
            store, hand = made(size, 2, size)
            for _ in range(size):
                hand.ask(1)
            self.assertRaises(Full, hand.ask, 1)
            put(store, ("taken", 1))
            self.assertRaises(NoName, hand.ask, 1)

    def test_the_refusals_are_ring_errors(self):
        for names in (1, 2):
            hand = made(names, 2, 1)[1]
            hand.ask(1)
            self.assertRaises(RingError, hand.ask, 1)

    def test_the_least_name_that_is_not_under_way(self):
        store, hand = made(8, 2, 5)
        for _ in range(5):
            hand.ask(0)
        put(store, (("answer", 0), (3, 0)), (("answer", 1), (1, 0)), ("answered", 2))
        hand.collect()
        hand.collect()
        self.assertEqual(hand.under_way(), [0, 2, 4])
        self.assertEqual(hand.ask(0), 1)
        self.assertEqual(hand.ask(0), 3)
        self.assertEqual(hand.under_way(), [0, 1, 2, 3, 4])
        self.assertRaises(NoName, hand.ask, 0)


class CollectTest(unittest.TestCase):
    def test_none_where_nothing_was_answered(self):
        store, hand = made(2, 2, 2)
        for _ in range(2):
            self.assertIsNone(hand.collect())
            self.assertEqual(seen(store, hand), ([], [], [], []))
        hand.ask(5)
        looks = seen(store, hand)
        self.assertIsNone(hand.collect())
        self.assertEqual(seen(store, hand), looks)

    def test_none_till_the_hand_reads_the_counter(self):
        store, hand = made(2, 2, 2)
        hand.ask(5)
        store.write(1, ("answer", 0), (0, 6))
        store.write(1, "answered", 1)
        self.assertIsNone(hand.collect())
        store.drain(1)
        self.assertIsNone(hand.collect())
        self.assertEqual(hand.under_way(), [0])
        store.drain(1)
        self.assertEqual(hand.collect(), (0, 6))
        self.assertEqual(hand.under_way(), [])

    def test_tells_what_stands_there_and_writes_handed_alone(self):
        store, hand = made(2, 2, 2)
        hand.ask(5)
        hand.ask(6)
        store.fence(0)
        put(store, (("answer", 0), (1, 7)), (("answer", 1), (0, 8)), ("answered", 2))
        told = hand.collect()
        self.assertIs(type(told), tuple)
        self.assertEqual(told, (1, 7))
        self.assertEqual(store.waits(0), [("handed", 1)])
        self.assertEqual(hand.under_way(), [0])
        self.assertEqual(hand.collect(), (0, 8))
        self.assertEqual(store.waits(0), [("handed", 1), ("handed", 2)])
        self.assertEqual(store.waits(1), [])
        self.assertEqual(hand.under_way(), [])
        self.assertIsNone(hand.collect())
        self.assertEqual(store.waits(0), [("handed", 1), ("handed", 2)])

    def test_a_name_that_was_not_under_way(self):
        store, hand = made(2, 2, 4)
        hand.ask(5)
        put(store, (("answer", 0), (3, 7)), ("answered", 1))
        self.assertEqual(hand.collect(), (3, 7))
        self.assertEqual(hand.under_way(), [0])

    def test_what_is_no_tuple_lets_nothing_go(self):
        store, hand = made(2, 2, 4, ("counter",))
        hand.ask(5)
        store.fence(0)
        put(store, ("answered", 1))
        self.assertEqual(hand.collect(), (None, None))
        self.assertEqual(seen(store, hand)[0], [("handed", 1)])
        self.assertEqual(hand.under_way(), [0])

    def test_an_old_tuple_as_it_is(self):
        store, hand = made(1, 2, 4, ("counter",))
        hand.ask(5)
        put(store, (("answer", 0), (0, 7)), ("answered", 1))
        self.assertEqual(hand.collect(), (0, 7))
        put(store, ("taken", 1))
        hand.ask(6)
        put(store, ("answered", 0))
        self.assertEqual(hand.collect(), (0, 7))
        self.assertEqual(hand.under_way(), [])


class RoundTest(unittest.TestCase):
    def test_past_size_times_rounds(self):
        for size, rounds in MAKES:
            with self.subTest(size=size, rounds=rounds):
                store, hand = made(size, rounds, 2)
                for step in range(3 * size * rounds):
                    further = (step + 1) % (size * rounds)
                    self.assertIsNone(hand.collect())
                    self.assertEqual(hand.ask(step), 0)
                    self.assertEqual(store.waits(0), [(("ask", step % size), (0, step)), ("asked", further)])
                    store.fence(0)
                    put(store, ("taken", further), (("answer", step % size), (0, -step)), ("answered", further))
                    self.assertEqual(hand.collect(), (0, -step))
                    self.assertEqual(store.waits(0), [("handed", further)])
                    store.fence(0)

    def test_full_from_wherever_it_begins(self):
        for size, rounds in MAKES:
            store, hand = made(size, rounds, 100)
            for step in range(2 * size * rounds):
                while step + size > len(hand.under_way()):
                    hand.ask(0)
                self.assertRaises(Full, hand.ask, 0)
                put(store, ("taken", (step + 1) % (size * rounds)))

    def test_a_full_ring_of_answers(self):
        for size, rounds in MAKES:
            store, hand = made(size, rounds, 9)
            for place in range(size):
                put(store, (("answer", place), (place, 50 + place)), ("answered", place + 1))
            self.assertEqual([hand.collect() for _ in range(size)], [(place, 50 + place) for place in range(size)])
            self.assertIsNone(hand.collect())


class FaultsTest(unittest.TestCase):
    def test_counter_is_written_ahead_of_the_place(self):
        store, hand = made(2, 2, 3, ("counter",))
        self.assertEqual(hand.ask(5), 0)
        self.assertEqual(hand.ask(6), 1)
        row = [("asked", 1), (("ask", 0), (0, 5)), ("asked", 2), (("ask", 1), (1, 6))]
        self.assertEqual(store.waits(0), row)
        self.assertRaises(Full, hand.ask, 7)

    def test_round_goes_round_at_the_size_and_is_never_full(self):
        for size in (1, 2, 3, 8):
            store, hand = made(size, 4, 30, ("round",))
            for step in range(3 * size):
                self.assertEqual(hand.ask(7), step)
                row = [(("ask", step % size), (step, 7)), ("asked", (step + 1) % size)]
                self.assertEqual(store.waits(0)[-2:], row)

    def test_round_with_no_name_left(self):
        hand = made(1, 2, 2, ("round",))[1]
        hand.ask(1)
        hand.ask(2)
        self.assertRaises(NoName, hand.ask, 3)

    def test_round_collects_till_the_counters_are_the_same(self):
        store, hand = made(2, 2, 2, ("round",))
        put(store, (("answer", 0), (0, 1)), (("answer", 1), (1, 2)), ("answered", 1))
        self.assertEqual(hand.collect(), (0, 1))
        self.assertIsNone(hand.collect())
        put(store, ("answered", 0))
        self.assertEqual(hand.collect(), (1, 2))
        self.assertEqual(store.waits(0), [("handed", 1), ("handed", 0)])
        self.assertIsNone(hand.collect())

    def test_both_at_once(self):
        store, hand = made(1, 2, 2, ("counter", "round"))
        hand.ask(5)
        hand.ask(6)
        row = [("asked", 0), (("ask", 0), (0, 5)), ("asked", 0), (("ask", 0), (1, 6))]
        self.assertEqual(store.waits(0), row)

    def test_the_other_ones_are_not_looked_at(self):
        store, hand = made(1, 2, 2, ("bell", "lie", "look"))
        self.assertEqual(hand.ask(5), 0)
        self.assertEqual(store.waits(0), [(("ask", 0), (0, 5)), ("asked", 1)])
        self.assertRaises(Full, hand.ask, 6)
        put(store, (("answer", 0), (0, 6)), ("answered", 1))
        self.assertEqual(hand.collect(), (0, 6))


class UnderWayTest(unittest.TestCase):
    def test_the_list_is_the_askers_own(self):
        hand = made(4, 2, 4)[1]
        self.assertEqual(hand.under_way(), [])
        hand.ask(1)
        first, second = hand.under_way(), hand.under_way()
        self.assertIs(type(first), list)
        self.assertIsNot(first, second)
        first.append(3)
        second.clear()
        self.assertEqual(hand.under_way(), [0])
        told = hand.under_way()
        hand.ask(2)
        self.assertEqual(told, [0])

    def test_two_hands_have_nothing_in_common(self):
        one, other = made(1, 2, 1)[1], made(1, 2, 1)[1]
        one.ask(1)
        self.assertEqual(other.under_way(), [])
        self.assertEqual(other.ask(1), 0)


if __name__ == "__main__":
    unittest.main()
