"""Counters of a size and rounds.

They go round at the size times the rounds, not at the size, so that a full ring and an
empty one can be told apart.
"""


def next_counter(counter, size, rounds):
    return (counter + 1) % (size * rounds)


def place_of(counter, size):
    return counter % size


def ahead_by(one, other, size, rounds):
    return (one - other) % (size * rounds)
