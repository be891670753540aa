import unittest

from askring.counters import ahead_by, next_counter, place_of

MAKES = [(size, rounds) for size in range(1, 9) for rounds in range(2, 5)]
# Rounds of 1 are what counters that go round at the size have; the others lie somewhat beyond the bounds.
BEYOND = [(1, 1), (3, 1), (8, 1), (9, 2), (8, 5), (12, 7)]


def steps_between(other, one, last):
    """Counted step by step, so that it owes nothing to a remainder."""
    steps = 0
    while other != one:
        other = 0 if other == last else other + 1
        steps += 1
    return steps


class CountersTest(unittest.TestCase):
    def assert_whole(self, told, asked):
        self.assertIs(type(told), int)
        self.assertEqual(told, asked)

    def test_next_goes_up_by_one_and_behind_the_last_to_0(self):
        for size, rounds in MAKES + BEYOND:
            last = size * rounds - 1
            with self.subTest(size=size, rounds=rounds):
                for counter in range(last):
                    self.assert_whole(next_counter(counter, size, rounds), counter + 1)
                self.assert_whole(next_counter(last, size, rounds), 0)

    def test_place_runs_through_the_ring_once_a_round(self):
        for size, rounds in MAKES + BEYOND:
            with self.subTest(size=size, rounds=rounds):
                places = [place_of(counter, size) for counter in range(size * rounds)]
                self.assertEqual(places, list(range(size)) * rounds)
                for place in places:
                    self.assertIs(type(place), int)

    def test_ahead_of_all_pairs(self):
        for size, rounds in MAKES + BEYOND:
            last = size * rounds - 1
            with self.subTest(size=size, rounds=rounds):
                for other in range(last + 1):
                    for one in range(last + 1):
                        self.assert_whole(ahead_by(one, other, size, rounds), steps_between(other, one, last))

    def test_ahead_of_itself_is_0(self):
        for size, rounds in MAKES:
            for counter in range(size * rounds):
                self.assert_whole(ahead_by(counter, counter, size, rounds), 0)

    def test_the_size_apart_is_told_from_0_apart(self):
        for size, rounds in MAKES:
            for other in range(size * rounds):
                one = other
                for step in range(size):
                    one = next_counter(one, size, rounds)
                self.assert_whole(ahead_by(one, other, size, rounds), size)
                self.assert_whole(ahead_by(other, one, size, rounds), size * (rounds - 1))

    def test_written_out(self):
        self.assertEqual(next_counter(0, 1, 2), 1)
        self.assertEqual(next_counter(1, 1, 2), 0)
        self.assertEqual(next_counter(31, 8, 4), 0)
        self.assertEqual(place_of(5, 3), 2)
        self.assertEqual(place_of(31, 8), 7)
        self.assertEqual(ahead_by(1, 5, 3, 2), 2)
        self.assertEqual(ahead_by(5, 1, 3, 2), 4)
        self.assertEqual(ahead_by(0, 31, 8, 4), 1)
        self.assertEqual(ahead_by(31, 0, 8, 4), 31)


if __name__ == "__main__":
    unittest.main()
