"""A store: a memory of cells, and for each of its two sides a row of what waits to get there."""

from askring.errors import NoDeed


class Store:
    def __init__(self):
        self.held = {}
        self.rows = [[], []]

    def become(self, one):
        self.held = dict(one.held)
        self.rows = [list(row) for row in one.rows]

    def write(self, side, cell, worth):
        self.rows[side].append((cell, worth))

    def drain(self, side):
        if not self.rows[side]:
            raise NoDeed("nothing waits")
        first = self.rows[side].pop(0)
        self.held[first[0]] = first[1]

    def fence(self, side):
        while self.rows[side]:
            self.drain(side)

    def read(self, side, cell):
        # From the end: of several writes to one cell the last one counts.
        for waiting in reversed(self.rows[side]):
            if waiting[0] == cell:
                return waiting[1]
        return self.memory(cell)

    def memory(self, cell):
        return self.held.get(cell, 0)

    def waits(self, side):
        return list(self.rows[side])

    def cells(self):
        # Compared with 0, not asked for truth: an empty tuple is a worth that isn't 0.
        return [cell for cell in self.held if self.held[cell] != 0]
