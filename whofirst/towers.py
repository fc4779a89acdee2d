"""Towers: what a roll does, built of things of another table alone, where nothing is settled at once."""

from whofirst.cells import Cells
from whofirst.makers import made
from whofirst.schemes import first_whole, has_ended, most_steps, stepped
from whofirst.tables import look_stand, look_table

# The steps of a hand in a cell beside those of its code: read, post and take.
STEPS_BESIDE_CODE = 3


class Tower:
    """Hands that ask for operations of a table, and agree on each cell by a scheme that is made of the base."""

    def __init__(self, table, base, many, *, start=0):
        look_table(table)
        look_stand(table, start)
        self.scheme = made(base, many)
        self.base = base
        self.cells = Cells(table, many, start)
        # Of each cell to which hands have come: its things, slots and codes as a whole, and the posted offers.
        self.wholes = []
        self.posted = []
        # Of each hand in the cell where it is: its offer, and the word of its next step.
        self.offers = [None] * many
        self.next_words = ["read"] * many

    def ask(self, hand, operation):
        """A hand asks for an operation."""
        self.cells.ask(hand, operation)

    def step(self, hand):
        """A hand does its next step; the answer where it takes its own asking, else None."""
        self.cells.look_step(hand)
        at = self.cells.gone[hand]
        word = self.next_words[hand]
        if word == "take":
            return self.take(hand, at)
        if word == "read":
            self.read(hand, at)
        elif word == "post":
            self.post(hand, at)
        else:
            self.do_row(hand, at)
        return None

    def read(self, hand, at):
        """A hand comes to cell `at`, and settles what it will offer there."""
        if at == len(self.wholes):
            self.wholes.append(first_whole(self.scheme))
            self.posted.append([None] * len(self.offers))
        self.offers[hand] = self.cells.offer(hand)
        self.next_words[hand] = "post"

    def post(self, hand, at):
        """A hand posts its offer in cell `at`."""
        self.posted[at][hand] = self.offers[hand]
        self.next_words[hand] = self.word_in_code(hand, at)

    def do_row(self, hand, at):
        """A hand does a row of its code in cell `at`."""
        self.wholes[at] = stepped(self.base, self.scheme, self.wholes[at], hand)
        self.next_words[hand] = self.word_in_code(hand, at)

    def word_in_code(self, hand, at):
        """The word of the next step of a hand that has posted in cell `at`."""
        return "take" if has_ended(self.scheme, self.wholes[at], hand) else "code"

    def take(self, hand, at):
        """A hand takes the asking of cell `at`; the answer where it is its own, else None."""
        held = self.wholes[at][1][hand]
        asking = self.posted[at][held]
        self.cells.settle(at, asking)
        self.next_words[hand] = "read"
        return self.cells.follow(hand, asking)

    def rows(self):
        """The askings (hand, operation) of all cells that some hand has taken."""
        return self.cells.pairs()

    def come(self):
        """How many cells hands have come to."""
        return len(self.wholes)

    def place(self, hand):
        """How many cells a hand has taken, and the word of its next step."""
        self.cells.look_hand(hand)
        return (self.cells.gone[hand], self.next_words[hand])

    def pending(self, hand):
        """The operation that a hand asked for and wasn't answered, or None."""
        return self.cells.pending(hand)

    def stand(self, hand):
        """The stand where a hand is."""
        return self.cells.stand(hand)

    def room(self, hand):
        """By how many of its own steps, at most, a hand would be answered if it asked now."""
        self.cells.look_hand(hand)
        cells_ahead = len(self.wholes) - self.cells.gone[hand] + len(self.offers)
        return cells_ahead * (STEPS_BESIDE_CODE + most_steps(self.scheme[1][hand]))

    def __len__(self):
        return len(self.cells.settled)
