import itertools
import unittest

from askring.errors import NoDeed, RingError
from askring.stores import Store

CELLS = ["asked", "hand sleeps", "ask 0", "", ("ask", 0), ("ask", 1), ("answer", 0), ()]


def looks(store, cells):
    """All that a store tells, as one value that can be compared."""
    return (
        store.waits(0),
        store.waits(1),
        sorted(store.cells(), key=repr),
        [(store.memory(cell), store.read(0, cell), store.read(1, cell)) for cell in cells],
    )


class MemoryTest(unittest.TestCase):
    def test_worth_is_0_at_first(self):
        store = Store()
        for cell in CELLS:
            for told in (store.memory(cell), store.read(0, cell), store.read(1, cell)):
                self.assertIs(type(told), int)
                self.assertEqual(told, 0)

    def test_nothing_waits_at_first_and_no_cell_is_told(self):
        store = Store()
        self.assertEqual(looks(store, []), ([], [], [], []))

    def test_looking_leaves_no_trace(self):
        store = Store()
        for cell in CELLS:
            store.memory(cell)
            store.read(0, cell)
            store.read(1, cell)
        self.assertEqual(store.cells(), [])
        self.assertEqual(store.waits(0), [])
        self.assertEqual(store.waits(1), [])


class WriteTest(unittest.TestCase):
    def test_waits_at_the_end_of_its_own_row(self):
        for side in (0, 1):
            store = Store()
            store.write(side, "asked", 1)
            store.write(side, ("ask", 0), (2, -5))
            store.write(side, "asked", 2)
            store.write(side, "asked", 2)
            store.write(side, "asked", 0)
            row = [("asked", 1), (("ask", 0), (2, -5)), ("asked", 2), ("asked", 2), ("asked", 0)]
            self.assertEqual(store.waits(side), row)
            self.assertEqual(store.waits(1 - side), [])
            for waiting in store.waits(side):
                self.assertIs(type(waiting), tuple)

    def test_a_write_does_not_reach_the_memory(self):
        store = Store()
        store.write(0, "asked", 1)
        self.assertEqual(store.memory("asked"), 0)
        self.assertEqual(store.cells(), [])

    def test_a_write_of_0_to_a_cell_of_0_waits_too(self):
        store = Store()
        store.write(1, "taken", 0)
        self.assertEqual(store.waits(1), [("taken", 0)])
        self.assertEqual(store.read(1, "taken"), 0)

    def test_write_drain_and_fence_tell_nothing(self):
        store = Store()
        self.assertIsNone(store.write(0, "asked", 1))
        self.assertIsNone(store.write(0, "asked", 2))
        self.assertIsNone(store.drain(0))
        self.assertIsNone(store.fence(0))
        self.assertIsNone(store.fence(0))

    def test_worths_at_the_bounds_and_beyond(self):
        for worth in (-10 ** 9, 10 ** 9, -10 ** 9 - 1, 10 ** 12):
            store = Store()
            store.write(0, "asked", worth)
            self.assertEqual(store.read(0, "asked"), worth)
            store.drain(0)
            self.assertEqual(store.memory("asked"), worth)
            self.assertEqual(store.cells(), ["asked"])


class ReadTest(unittest.TestCase):
    def test_a_side_reads_what_it_wrote_last(self):
        store = Store()
        store.write(0, "asked", 1)
        self.assertEqual(store.read(0, "asked"), 1)
        store.write(0, "handed", 7)
        store.write(0, "asked", 2)
        self.assertEqual(store.read(0, "asked"), 2)
        self.assertEqual(store.read(0, "handed"), 7)

    def test_a_waiting_0_hides_the_memory(self):
        store = Store()
        store.write(0, "hand sleeps", 1)
        store.fence(0)
        store.write(0, "hand sleeps", 0)
        self.assertEqual(store.read(0, "hand sleeps"), 0)
        self.assertEqual(store.memory("hand sleeps"), 1)
        self.assertEqual(store.read(1, "hand sleeps"), 1)

    def test_a_side_does_not_read_what_waits_of_the_other_one(self):
        store = Store()
        store.write(0, "asked", 1)
        self.assertEqual(store.read(1, "asked"), 0)
        store.drain(0)
        self.assertEqual(store.read(1, "asked"), 1)
        store.write(1, "asked", 9)
        self.assertEqual(store.read(0, "asked"), 1)
        self.assertEqual(store.read(1, "asked"), 9)

    def test_the_last_write_counts_while_an_earlier_one_is_drained(self):
        store = Store()
        store.write(0, "asked", 1)
        store.write(0, "asked", 2)
        store.drain(0)
        self.assertEqual(store.read(0, "asked"), 2)
        self.assertEqual(store.read(1, "asked"), 1)
        self.assertEqual(store.memory("asked"), 1)

    def test_behind_its_draining_a_side_reads_the_memory(self):
        store = Store()
        store.write(0, "asked", 1)
        store.write(1, "asked", 2)
        store.drain(0)
        store.drain(1)
        self.assertEqual(store.read(0, "asked"), 2)

    def test_a_text_and_a_tuple_are_two_cells(self):
        store = Store()
        store.write(0, "ask 0", 3)
        store.write(0, ("ask", 0), (0, 4))
        for told in (store.read, lambda side, cell: store.memory(cell)):
            self.assertEqual(told(0, "ask 0"), 3)
            self.assertEqual(told(0, ("ask", 0)), (0, 4))
            self.assertEqual(told(0, ("ask", 1)), 0)
            store.fence(0)


class DrainTest(unittest.TestCase):
    def test_the_first_goes_and_the_rest_stays(self):
        store = Store()
        store.write(0, "asked", 1)
        store.write(0, "handed", 2)
        store.write(0, "asked", 3)
        store.write(1, "taken", 4)
        store.drain(0)
        self.assertEqual(store.waits(0), [("handed", 2), ("asked", 3)])
        self.assertEqual(store.waits(1), [("taken", 4)])
        self.assertEqual(store.memory("asked"), 1)
        self.assertEqual(store.memory("handed"), 0)
        self.assertEqual(store.memory("taken"), 0)

    def test_rows_are_drained_apart(self):
        store = Store()
        store.write(0, "asked", 1)
        store.write(1, "asked", 2)
        store.drain(1)
        self.assertEqual(store.memory("asked"), 2)
        self.assertEqual(store.waits(0), [("asked", 1)])
        store.drain(0)
        self.assertEqual(store.memory("asked"), 1)

    def test_refused_where_nothing_waits(self):
        for side in (0, 1):
            store = Store()
            for again in range(3):
                with self.assertRaises(NoDeed):
                    store.drain(side)
            self.assertEqual(looks(store, ["asked"]), ([], [], [], [(0, 0, 0)]))

    def test_the_refusal_is_a_ring_error(self):
        with self.assertRaises(RingError):
            Store().drain(0)

    def test_refused_also_where_the_other_side_has_something_waiting(self):
        for side in (0, 1):
            store = Store()
            store.write(side, "kept", 5)
            store.fence(side)
            store.write(1 - side, "asked", 1)
            seen = looks(store, ["kept", "asked"])
            for again in range(3):
                with self.assertRaises(NoDeed):
                    store.drain(side)
                self.assertEqual(looks(store, ["kept", "asked"]), seen)

    def test_a_write_behind_a_refusal_is_taken_as_ever(self):
        store = Store()
        with self.assertRaises(NoDeed):
            store.drain(0)
        store.write(0, "asked", 1)
        self.assertEqual(store.waits(0), [("asked", 1)])
        store.drain(0)
        self.assertEqual(store.memory("asked"), 1)
        with self.assertRaises(NoDeed):
            store.drain(0)
        self.assertEqual(store.memory("asked"), 1)


class FenceTest(unittest.TestCase):
    def test_drains_its_side_alone_in_order(self):
        for side in (0, 1):
            store = Store()
            store.write(side, "a", 1)
            store.write(1 - side, "a", 9)
            store.write(side, "b", 2)
            store.write(side, "a", 3)
            store.fence(side)
            self.assertEqual(store.waits(side), [])
            self.assertEqual(store.waits(1 - side), [("a", 9)])
            self.assertEqual(store.memory("a"), 3)
            self.assertEqual(store.memory("b"), 2)

    def test_does_nothing_where_nothing_waits(self):
        store = Store()
        store.write(0, "a", 1)
        store.fence(0)
        store.write(1, "a", 2)
        seen = looks(store, ["a"])
        for again in range(3):
            store.fence(0)
            self.assertEqual(looks(store, ["a"]), seen)

    def test_a_long_row(self):
        store = Store()
        for number in range(2000):
            store.write(0, ("ask", number % 7), number)
        store.fence(0)
        self.assertEqual(store.waits(0), [])
        self.assertEqual(store.memory(("ask", 1999 % 7)), 1999)


class CellsTest(unittest.TestCase):
    def test_each_cell_once(self):
        store = Store()
        for cell in CELLS:
            store.write(0, cell, 1)
            store.write(1, cell, 2)
            store.write(0, cell, (0, 0))
        store.fence(0)
        store.fence(1)
        self.assertEqual(sorted(store.cells(), key=repr), sorted(CELLS, key=repr))

    def test_not_what_only_waits(self):
        store = Store()
        store.write(0, "a", 1)
        store.write(0, "b", 1)
        store.write(1, "c", 1)
        store.drain(0)
        self.assertEqual(store.cells(), ["a"])

    def test_not_what_is_0_or_became_0_again(self):
        store = Store()
        store.write(0, "a", 0)
        store.write(0, "b", 1)
        store.fence(0)
        self.assertEqual(store.cells(), ["b"])
        store.write(1, "b", 0)
        self.assertEqual(store.cells(), ["b"])
        store.drain(1)
        self.assertEqual(store.cells(), [])
        self.assertEqual(store.memory("b"), 0)
        store.write(0, "b", -1)
        store.drain(0)
        self.assertEqual(store.cells(), ["b"])

    def test_a_text_and_a_tuple_are_two_cells(self):
        store = Store()
        store.write(0, "ask 0", 1)
        store.write(0, ("ask", 0), (0, 7))
        store.fence(0)
        self.assertEqual(sorted(store.cells(), key=repr), sorted(["ask 0", ("ask", 0)], key=repr))
        store.write(0, "ask 0", 0)
        store.fence(0)
        self.assertEqual(store.cells(), [("ask", 0)])

    def test_a_worth_that_is_a_tuple_is_not_0(self):
        for worth in ((0, 0), (0,), (), (None, None)):
            store = Store()
            store.write(0, ("ask", 0), worth)
            store.drain(0)
            self.assertEqual(store.cells(), [("ask", 0)])
            self.assertEqual(store.memory(("ask", 0)), worth)


class ToldListsTest(unittest.TestCase):
    def made(self):
        store = Store()
        store.write(0, "a", 1)
        store.fence(0)
        store.write(0, "b", 2)
        store.write(1, "c", 3)
        return store

    def test_the_asker_may_change_them(self):
        store = self.made()
        seen = looks(store, ["a", "b", "c", "d"])
        for told in (store.waits(0), store.waits(1), store.cells()):
            told.append(("d", 4))
            told[0] = ("d", 5)
            self.assertEqual(looks(store, ["a", "b", "c", "d"]), seen)
            told.clear()
            self.assertEqual(looks(store, ["a", "b", "c", "d"]), seen)

    def test_no_two_are_one(self):
        for store in (Store(), self.made()):
            told = [store.waits(0), store.waits(0), store.waits(1), store.waits(1), store.cells(), store.cells()]
            for one, other in itertools.combinations(told, 2):
                self.assertIsNot(one, other)
            for one in told:
                self.assertIs(type(one), list)

    def test_nothing_done_later_changes_them(self):
        store = self.made()
        row_of_0, row_of_1, cells = store.waits(0), store.waits(1), store.cells()
        store.write(0, "d", 4)
        store.write(1, "a", 0)
        store.drain(0)
        store.fence(0)
        store.fence(1)
        self.assertEqual(row_of_0, [("b", 2)])
        self.assertEqual(row_of_1, [("c", 3)])
        self.assertEqual(cells, ["a"])

    def test_two_stores_have_nothing_in_common(self):
        one, other = self.made(), Store()
        self.assertEqual(looks(other, ["a", "b"]), ([], [], [], [(0, 0, 0), (0, 0, 0)]))
        seen = looks(one, ["a", "b"])
        other.write(0, "a", 7)
        other.write(1, "b", 8)
        other.fence(0)
        self.assertEqual(looks(one, ["a", "b"]), seen)
        with self.assertRaises(NoDeed):
            other.drain(0)
        one.drain(0)
        self.assertEqual(other.memory("b"), 0)


class AllShortRunsTest(unittest.TestCase):
    """Every run of a few deeds, against what its deeds say when they are gone through from the start."""

    DEEDS = [("write", side, cell, worth) for side in (0, 1) for cell in ("x", ("x",)) for worth in (0, 1)]
    DEEDS += [(word, side) for word in ("drain", "fence") for side in (0, 1)]

    def do(self, store, deed):
        if deed[0] == "write":
            store.write(*deed[1:])
        elif deed[0] == "fence":
            store.fence(deed[1])
        elif store.waits(deed[1]):
            store.drain(deed[1])
        else:
            self.assertRaises(NoDeed, store.drain, deed[1])

    def told_by(self, run):
        rows, sunk = {0: (), 1: ()}, ()
        for deed in run:
            side = deed[1]
            if deed[0] == "write":
                rows[side] += (deed[2:],)
            else:
                many = len(rows[side]) if deed[0] == "fence" else 1
                sunk, rows[side] = sunk + rows[side][:many], rows[side][many:]
        return rows, sunk

    def test_all(self):
        for run in itertools.product(self.DEEDS, repeat=4):
            store = Store()
            for deed in run:
                self.do(store, deed)
            rows, sunk = self.told_by(run)
            memory = {"x": 0, ("x",): 0, **dict(sunk)}
            wanted = (
                list(rows[0]),
                list(rows[1]),
                sorted([cell for cell in memory if memory[cell]], key=repr),
                [(memory[cell], *({**memory, **dict(rows[side])}[cell] for side in (0, 1))) for cell in ("x", ("x",))],
            )
            self.assertEqual(looks(store, ["x", ("x",)]), wanted, run)


if __name__ == "__main__":
    unittest.main()
