"""Rolls ([17] and [18])."""

import unittest

from ask_refusals import AskRefusals
from checks import Checks
from samples import FLAG, LEVELS, SLOT, STICKY, STONE, WHEEL, bad_tables, drawn_tables
from scheme_samples import Draw
from slow_rolls import History, SlowRoll, drive, schedules
from whofirst.errors import BadMany, BadTable, Idle, NoStand
from whofirst.rolls import Roll

TABLES = [table for table, due, mark in LEVELS] + drawn_tables(12)


class Known(Checks):
    def test_at_first(self):
        for many in (2, 3, 4):
            roll = Roll(WHEEL, many)
            self.same((roll.rows(), len(roll)), ([], 0))
            for hand in range(many):
                self.same((roll.pending(hand), roll.behind(hand), roll.stand(hand)), (None, 0, 0))

    def test_alone(self):
        roll = Roll(WHEEL, 2)
        for number in range(7):
            self.assertIsNone(roll.ask(1, 0))
            self.same(roll.pending(1), 0)
            self.same(len(roll), number)
            self.same(roll.step(1), number % 5)
            self.same((roll.pending(1), roll.stand(1), roll.behind(1)), (None, (number + 1) % 5, 0))
        self.same(roll.rows(), [(1, 0)] * 7)
        self.same((roll.stand(0), roll.behind(0)), (0, 7))

    def test_a_hand_is_helped(self):
        roll = Roll(WHEEL, 2)
        roll.ask(1, 0)
        roll.ask(0, 0)
        self.same(roll.step(0), 0)
        roll.ask(0, 0)
        # Cell 1 is hand 1's, as it has asked.
        self.same(roll.step(0), None)
        self.same(roll.rows(), [(0, 0), (1, 0)])
        self.same(roll.pending(0), 0)
        self.same(roll.step(0), 2)
        roll.ask(0, 0)
        # Cell 3 would be, but its asking stands in a cell already.
        self.same(roll.step(0), 3)
        self.same(roll.rows(), [(0, 0), (1, 0), (0, 0), (0, 0)])
        self.same((roll.behind(1), roll.stand(1), roll.pending(1)), (4, 0, 0))
        self.same(roll.step(1), None)
        self.same((roll.behind(1), roll.stand(1), roll.pending(1)), (3, 1, 0))
        self.same(roll.step(1), 1)
        self.same((roll.behind(1), roll.stand(1), roll.pending(1)), (2, 2, None))
        self.refused(Idle, roll.step, 1)
        roll.ask(1, 0)
        self.same([roll.step(1) for step in range(3)], [None, None, 4])
        self.same(len(roll), 5)

    def test_who_has_not_asked_is_not_helped(self):
        roll = Roll(WHEEL, 3)
        for number in range(6):
            roll.ask(2, 0)
            self.same(roll.step(2), number % 5)
        self.same(roll.rows(), [(2, 0)] * 6)

    def test_an_answered_asking_is_not_helped_again(self):
        roll = Roll(WHEEL, 2)
        roll.ask(1, 0)
        self.same(roll.step(1), 0)
        roll.ask(0, 0)
        self.same([roll.step(0), roll.step(0)], [None, 1])
        self.same(roll.rows(), [(1, 0), (0, 0)])

    def test_the_same_operation_twice_is_another_asking(self):
        roll = Roll(SLOT, 2)
        roll.ask(0, 1)
        self.same(roll.step(0), 0)
        roll.ask(0, 1)
        self.same(roll.pending(0), 1)
        roll.ask(1, 2)
        # Cell 1 is hand 1's; hand 0's second asking comes behind it.
        self.same(roll.step(0), None)
        self.same(roll.step(0), 0)
        self.same(roll.rows(), [(0, 1), (1, 2), (0, 1)])
        self.same([roll.step(1), roll.step(1)], [None, 1])

    def test_starts(self):
        for table in TABLES:
            for start in range(len(table[0])):
                roll = Roll(table, 3, start=start)
                self.same([roll.stand(hand) for hand in range(3)], [start] * 3)
                roll.ask(2, 0)
                self.same(roll.step(2), table[0][start][0])
                self.same([roll.stand(hand) for hand in range(3)], [start, start, table[0][start][1]])
            self.same(Roll(table, 4).stand(3), 0)


class AsOneThing(Checks):
    def test_as_gone_slowly(self):
        draw = Draw(111)
        for table in TABLES:
            for many in (2, 3, 4):
                start = draw.below(len(table[0]))
                for schedule in schedules(many, draw, 60):
                    drive(self, Roll(table, many, start=start), SlowRoll(table, many, start), schedule, draw)

    def test_without_rest_and_start(self):
        draw = Draw(121)
        for table in (WHEEL, SLOT, STICKY):
            for many in (2, 3, 4):
                for schedule in schedules(many, draw, 250):
                    roll = Roll(table, many)
                    drive(self, roll, SlowRoll(table, many), schedule, draw, rest=0)
                    self.assertGreater(len(roll), 20)

    def test_the_bound_is_met(self):
        # Hand 0's turn has just gone by when it asks, so that all others are served ahead of it.
        roll = Roll(WHEEL, 4)
        roll.ask(0, 0)
        self.same(roll.step(0), 0)
        for hand in (1, 2, 3, 0):
            roll.ask(hand, 0)
        self.same([roll.step(0) for step in range(4)], [None, None, None, 4])
        self.same(roll.rows(), [(0, 0), (1, 0), (2, 0), (3, 0), (0, 0)])

    def test_however_fast_others_are(self):
        for many in (2, 3, 4):
            for late in range(many):
                self.others_are_fast(many, late)

    def others_are_fast(self, many, late):
        roll = Roll(WHEEL, many)
        others = [hand for hand in range(many) if hand != late]
        roll.ask(late, 0)
        for number in range(20):
            for hand in others:
                if roll.pending(hand) is None:
                    roll.ask(hand, 0)
                roll.step(hand)
        self.assertLess(roll.rows().index((late, 0)), many)
        for step in range(many - 1):
            if roll.pending(late) is not None:
                roll.step(late)
        if roll.pending(late) is not None:
            self.assertIsInstance(roll.step(late), int)
        self.assertIsNone(roll.pending(late))

    def test_the_history_check_finds_faults(self):
        history = History()
        history.ask(0, 0)
        history.answer(0, 0)
        history.ask(1, 0)
        history.answer(1, 1)
        history.check(self, WHEEL, 0, [(0, 0), (1, 0)])
        for start, rows in ((1, [(0, 0), (1, 0)]), (0, [(1, 0), (0, 0)]), (0, [(0, 0)]), (0, [(0, 0)] * 2)):
            with self.assertRaises(AssertionError):
                history.check(self, WHEEL, start, rows)
        alike = History()
        for hand in (0, 1):
            alike.ask(hand, 0)
            alike.answer(hand, 7)
        alike.check(self, STONE, 0, [(0, 0), (1, 0)])
        with self.assertRaises(AssertionError):
            alike.check(self, STONE, 0, [(1, 0), (0, 0)])


class Refused(AskRefusals, Checks):
    def test_made(self):
        for table, at in bad_tables():
            self.refused_at(at, BadTable, Roll, table, 2)
            self.refused_at(at, BadTable, Roll, table, 9)
            with self.assertRaises(BadTable):
                Roll(table, 9, start=9)
        for table in (STONE, FLAG, SLOT, STICKY, WHEEL):
            for start in (-999999999, -1, len(table[0]), 999999999):
                for many in (2, 1):
                    self.refused(NoStand, Roll, table, many, start=start)
        for many in (-999999999, -1, 0, 1, 5, 6, 999999999):
            self.refused(BadMany, Roll, FLAG, many)
            self.refused(BadMany, Roll, FLAG, many, start=1)
        with self.assertRaises(TypeError):
            Roll(FLAG, 2, 1)

    def test_true_and_false_in_tables(self):
        self.refused_at(0, BadTable, Roll, (((False, True), (True, True)),), 2)

    def fresh(self, table, many):
        return Roll(table, many)

    def of_one_hand(self, roll):
        return roll.pending, roll.behind, roll.stand


if __name__ == "__main__":
    unittest.main()
