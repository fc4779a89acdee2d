"""The refusals that are alike of rolls and towers."""

from samples import SLOT, STONE, WHEEL
from slow_rolls import questions
from whofirst.errors import Busy, Idle, NoHand, NoOperation


def answered(thing, hand, operation):
    """The hand asks, and steps until it is answered."""
    thing.ask(hand, operation)
    while thing.pending(hand) is not None:
        thing.step(hand)


class AskRefusals:
    """Tests for a class of tests that has `fresh(table, many)`, and `of_one_hand(thing)`, the questions of a hand."""

    def begun(self):
        """Hand 0 has asked, hand 1 was answered, hand 2 has not asked, and hand 3 has asked and stepped."""
        thing = self.fresh(SLOT, 4)
        answered(thing, 1, 1)
        thing.ask(0, 2)
        thing.ask(3, 0)
        thing.step(3)
        return thing

    def test_no_hand(self):
        thing = self.begun()
        before = questions(thing, 4)
        for hand in (-999999999, -1, 4, 999999999):
            for call in (thing.step, *self.of_one_hand(thing)):
                self.refused(NoHand, call, hand)
            for operation in (0, -1, 3):
                self.refused(NoHand, thing.ask, hand, operation)
        self.same(questions(thing, 4), before)

    def test_no_hand_of_fewer(self):
        for many in (2, 3):
            thing = self.fresh(SLOT, many)
            for call in (thing.step, *self.of_one_hand(thing)):
                self.refused(NoHand, call, many)
            self.refused(NoHand, thing.ask, many, 0)

    def test_busy_ahead_of_no_operation(self):
        thing = self.begun()
        before = questions(thing, 4)
        for hand in (0, 3):
            for operation in (0, 2, 3, -1, 999999999):
                self.refused(Busy, thing.ask, hand, operation)
        for hand in (1, 2):
            for operation in (3, -1, 999999999, -999999999):
                self.refused(NoOperation, thing.ask, hand, operation)
        self.same(questions(thing, 4), before)

    def test_idle(self):
        thing = self.begun()
        before = questions(thing, 4)
        for hand in (1, 2):
            self.refused(Idle, thing.step, hand)
        self.same(questions(thing, 4), before)
        for table in (STONE, WHEEL):
            self.refused(Idle, self.fresh(table, 2).step, 0)

    def test_a_refused_ask_is_no_asking(self):
        thing = self.fresh(SLOT, 2)
        self.refused(NoOperation, thing.ask, 0, 3)
        self.same(thing.pending(0), None)
        self.refused(Idle, thing.step, 0)
        thing.ask(0, 2)
        self.refused(Busy, thing.ask, 0, 1)
        self.same(thing.pending(0), 2)
        while thing.pending(0) is not None:
            thing.step(0)
        self.same(thing.rows(), [(0, 2)])
