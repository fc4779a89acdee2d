"""What rolls and towers share: hands that ask, cells with an asking each, and how far each hand has gone in them."""

from whofirst.errors import Busy, Idle, NoHand
from whofirst.kinds import is_below
from whofirst.tables import look_operation


class Cells:
    """The cells of a roll or a tower, and its hands.

    An asking is a tuple (hand, operation, number), in which the number makes each asking another one.
    """

    def __init__(self, table, many, start):
        self.table = table
        self.made_askings = 0
        # Of each hand: its asking that was not answered yet, how many cells it has gone, the stand where it is.
        self.asked = [None] * many
        self.gone = [0] * many
        self.own_stands = [start] * many
        # The askings of the cells that are settled, and the number of each one's cell.
        self.settled = []
        self.numbers = {}

    def look_hand(self, hand):
        """Refuse what is no hand."""
        if not is_below(hand, len(self.asked)):
            raise NoHand()

    def look_step(self, hand):
        """Refuse what is no hand, or one that asked nothing."""
        self.look_hand(hand)
        if self.asked[hand] is None:
            raise Idle()

    def ask(self, hand, operation):
        """A hand asks for an operation."""
        self.look_hand(hand)
        if self.asked[hand] is not None:
            raise Busy()
        look_operation(self.table, operation)
        self.asked[hand] = (hand, operation, self.made_askings)
        self.made_askings += 1

    def pending(self, hand):
        """The operation that a hand asked for and wasn't answered, or None."""
        self.look_hand(hand)
        asking = self.asked[hand]
        return None if asking is None else asking[1]

    def stand(self, hand):
        """The stand where a hand is."""
        self.look_hand(hand)
        return self.own_stands[hand]

    def has_gone(self, hand, asking):
        """Whether a hand has gone the cell of an asking."""
        return asking in self.numbers and self.numbers[asking] < self.gone[hand]

    def offer(self, hand):
        """The asking that a hand is for in its next cell: that of the hand whose turn it is there, or its own."""
        turn = self.asked[self.gone[hand] % len(self.asked)]
        if turn is not None and not self.has_gone(hand, turn):
            return turn
        return self.asked[hand]

    def settle(self, at, asking):
        """The asking is that of cell `at`, if this is not settled yet."""
        if at == len(self.settled):
            self.settled.append(asking)
            self.numbers[asking] = at

    def follow(self, hand, asking):
        """A hand goes its next cell, which has this asking; the answer where it is its own, else None."""
        answer, onward = self.table[asking[1]][self.own_stands[hand]]
        self.own_stands[hand] = onward
        self.gone[hand] += 1
        if asking != self.asked[hand]:
            return None
        self.asked[hand] = None
        return answer

    def pairs(self):
        """Hand and operation of the askings of all cells that are settled."""
        return [(hand, operation) for hand, operation, number in self.settled]
