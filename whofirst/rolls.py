"""Rolls: hands that do operations as if one did them behind the other, where a cell is settled at once."""

from whofirst.cells import Cells
from whofirst.tables import look_stand, look_table
from whofirst.teams import LEAST_HANDS, look_many


class Roll:
    """Hands that ask for operations of a table, and go cell by cell until they are answered."""

    def __init__(self, table, many, *, start=0):
        look_table(table)
        look_stand(table, start)
        look_many(many, LEAST_HANDS)
        self.cells = Cells(table, many, start)

    def ask(self, hand, operation):
        """A hand asks for an operation."""
        self.cells.ask(hand, operation)

    def step(self, hand):
        """A hand goes its next cell; the answer where it is its own asking, else None."""
        self.cells.look_step(hand)
        at = self.cells.gone[hand]
        # A hand that comes to a new cell has gone all others, so what it is for stands in none of them.
        self.cells.settle(at, self.cells.offer(hand))
        return self.cells.follow(hand, self.cells.settled[at])

    def rows(self):
        """The cells."""
        return self.cells.pairs()

    def pending(self, hand):
        """The operation that a hand asked for and wasn't answered, or None."""
        return self.cells.pending(hand)

    def behind(self, hand):
        """How many cells a hand has not gone."""
        self.cells.look_hand(hand)
        return len(self.cells.settled) - self.cells.gone[hand]

    def stand(self, hand):
        """The stand where a hand is."""
        return self.cells.stand(hand)

    def __len__(self):
        return len(self.cells.settled)
