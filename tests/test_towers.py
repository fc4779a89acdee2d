"""Towers ([19] and [20])."""

import unittest
from itertools import product

import oracle
import slow
from ask_refusals import AskRefusals
from checks import Checks
from samples import FLAG, LEVELS, PAIRED, SLOT, STICKY, STONE, TWISTED, WHEEL, bad_tables, drawn_tables
from scheme_samples import Draw
from slow_rolls import History, SlowTower, drive, schedules
from whofirst.errors import BadMany, BadTable, NoOperation, NoScheme, NoStand
from whofirst.levels import level
from whofirst.makers import made
from whofirst.schemes import most_steps
from whofirst.towers import Tower

# (base, count of hands) up to each base's level
BASES = [(base, many) for base, due, mark in LEVELS for many in range(2, due + 1)]
BASES += [(base, level(base)) for base in PAIRED + TWISTED]
TABLES = (WHEEL, SLOT, STICKY, FLAG, STONE) + tuple(drawn_tables(20)[12:])


def both_towers(table, base, many, start=0):
    return Tower(table, base, many, start=start), SlowTower(table, base, made(base, many), many, start)


class Samples(unittest.TestCase):
    def test_there_are_bases_for_each_count(self):
        for many in (2, 3, 4):
            self.assertGreater(len([base for base, count in BASES if count == many]), 2)


class Known(Checks):
    def test_at_first(self):
        for base, many in BASES:
            tower = Tower(WHEEL, base, many)
            self.same((tower.rows(), len(tower), tower.come()), ([], 0, 0))
            for hand in range(many):
                self.same((tower.pending(hand), tower.place(hand), tower.stand(hand)), (None, (0, "read"), 0))

    def test_alone(self):
        for base, many in BASES:
            for hand in range(many):
                self.alone(base, many, hand)

    def alone(self, base, many, hand):
        """By words read, post, code as often as it needs, and take, a hand alone is answered by its first cell."""
        tower = Tower(WHEEL, base, many, start=3)
        for number in range(6):
            world = slow.World(base, made(base, many))
            tower.ask(hand, 0)
            words = []
            told = None
            while told is None:
                taken, word = tower.place(hand)
                self.same((taken, tower.pending(hand), tower.stand(hand)), (number, 0, (3 + number) % 5))
                words.append(word)
                told = tower.step(hand)
                self.same(tower.come(), number + 1)
            while not world.ended(hand):
                world.step(hand)
                words.remove("code")
            self.same(words, ["read", "post", "take"])
            self.same(told, (3 + number) % 5)
            self.same((tower.place(hand), tower.pending(hand)), ((number + 1, "read"), None))
        self.same(tower.rows(), [(hand, 0)] * 6)

    def test_two_hands_by_turns(self):
        tower = Tower(WHEEL, FLAG, 2)
        self.same([tower.room(0), tower.room(1)], [12, 12])
        tower.ask(1, 0)
        self.same((tower.place(1), tower.come()), ((0, "read"), 0))
        self.same((tower.step(1), tower.place(1), tower.come()), (None, (0, "post"), 1))
        self.same([tower.room(0), tower.room(1)], [18, 18])
        tower.ask(0, 0)
        # Hand 1 has read ahead of hand 0's asking, whose turn it is in cell 0, and offers its own.
        self.same((tower.step(0), tower.place(0)), (None, (0, "post")))
        self.same((tower.step(0), tower.place(0)), (None, (0, "code")))
        self.same((tower.step(1), tower.place(1)), (None, (0, "code")))
        for step in range(2):
            tower.step(1)
        self.same((tower.place(1), tower.rows(), len(tower)), ((0, "take"), [], 0))
        # Hand 1 was first in the code of cell 0.
        self.same((tower.step(1), tower.place(1), tower.rows(), len(tower)), (0, (1, "read"), [(1, 0)], 1))
        self.same((tower.come(), tower.room(1), tower.room(0)), (1, 12, 18))
        for step in range(3):
            self.same((tower.step(0), tower.pending(0)), (None, 0))
        self.same(tower.place(0), (0, "take"))
        self.same((tower.step(0), tower.place(0), tower.stand(0)), (None, (1, "read"), 1))
        tower.ask(1, 0)
        tower.step(1)
        tower.step(1)
        # Cell 1 is hand 1's turn: hand 0 reads its asking and offers it.
        told = [tower.step(0) for step in range(5)]
        self.same(told, [None] * 5)
        self.same((tower.rows(), tower.place(0), tower.stand(0)), ([(1, 0), (1, 0)], (2, "read"), 2))
        self.same((tower.pending(1), tower.place(1), tower.come()), (0, (1, "code"), 2))
        self.same([tower.step(1) for step in range(4)], [None, None, None, 1])

    def test_what_it_has_taken_is_not_offered_again(self):
        tower = Tower(WHEEL, FLAG, 2)
        tower.ask(1, 0)
        for number in range(8):
            tower.ask(0, 0)
            while tower.pending(0) is not None:
                tower.step(0)
        # Hand 1 never stepped: its asking is in cell 1, and in no other one.
        self.same(tower.rows(), [(0, 0), (1, 0)] + [(0, 0)] * 7)
        self.same(tower.stand(0), 9 % 5)
        self.same(tower.room(1), (9 + 2) * 6)

    def test_the_same_operation_twice_is_another_asking(self):
        tower = Tower(SLOT, FLAG, 2)
        for number in range(3):
            tower.ask(0, 1)
            self.same(tower.pending(0), 1)
            told = [tower.step(0) for step in range(5)]
            self.same(told, [None] * 4 + [0])
        self.same(tower.rows(), [(0, 1)] * 3)

    def test_starts(self):
        for table in TABLES:
            for start in range(len(table[0])):
                tower = Tower(table, STICKY, 3, start=start)
                self.same([tower.stand(hand) for hand in range(3)], [start] * 3)
                tower.ask(1, 0)
                told = None
                while told is None:
                    told = tower.step(1)
                self.same(told, table[0][start][0])
                self.same([tower.stand(hand) for hand in range(3)], [start, table[0][start][1], start])
            self.same(Tower(table, STICKY, 4).stand(3), 0)

    def test_room(self):
        for base, many in BASES:
            scheme = made(base, many)
            tower = Tower(STONE, base, many)
            for hand in range(many):
                cell = 3 + most_steps(scheme[1][hand])
                self.same(tower.room(hand), many * cell)
                self.same(tower.room(hand), many * (3 + slow.longest(scheme[1][hand])))
            tower.ask(0, 0)
            tower.step(0)
            self.same(tower.room(1), (many + 1) * (3 + most_steps(scheme[1][1])))


class AsOneThing(Checks):
    def test_as_gone_slowly(self):
        draw = Draw(131)
        for number, (base, many) in enumerate(BASES):
            table = TABLES[number % len(TABLES)]
            start = draw.below(len(table[0]))
            for schedule in schedules(many, draw, 130):
                tower, slow_tower = both_towers(table, base, many, start)
                drive(self, tower, slow_tower, schedule, draw)
                self.stands_fit(tower, table, many, start)

    def test_without_rest(self):
        draw = Draw(141)
        for base, many in ((FLAG, 2), (LEVELS[5][0], 3), (STICKY, 4)):
            for table in (WHEEL, STICKY):
                for schedule in schedules(many, draw, 300):
                    tower, slow_tower = both_towers(table, base, many)
                    drive(self, tower, slow_tower, schedule, draw, rest=0)
                    self.assertGreater(len(tower), 1)

    def stands_fit(self, tower, table, many, start):
        """All hands have taken the same askings from the cells, so each stands where the rows lead."""
        operations = [operation for hand, operation in tower.rows()]
        for hand in range(many):
            taken = tower.place(hand)[0]
            self.same(tower.stand(hand), oracle.walk(table, start, operations[:taken])[1])

    def test_all_weavings_of_two_hands(self):
        for base in (FLAG, STICKY):
            for weaving in product(range(2), repeat=11):
                self.woven(base, weaving)

    def woven(self, base, weaving):
        """Each asks at its first step and again when it is answered; in the end each is answered within its room."""
        tower = Tower(WHEEL, base, 2)
        history = History()
        rooms, steps = [0, 0], [0, 0]
        for hand in weaving + (0,) * 13 + (1,) * 19:
            if tower.pending(hand) is None:
                rooms[hand], steps[hand] = tower.room(hand), 0
                tower.ask(hand, 0)
                history.ask(hand, 0)
            told = tower.step(hand)
            steps[hand] += 1
            if told is not None:
                history.answer(hand, told)
                self.assertIsNone(tower.pending(hand))
            self.assertLessEqual(steps[hand] + (told is None), rooms[hand])
        history.check(self, WHEEL, 0, tower.rows())
        self.stands_fit(tower, WHEEL, 2, 0)

    def test_whoever_stops_at_any_step_the_others_are_answered(self):
        for base, many in BASES:
            if base in (FLAG, STICKY):
                for stopping in product(range(0, 9, 2), repeat=many - 1):
                    self.others_stop(base, many, stopping)

    def others_stop(self, base, many, stopping):
        """All hands but the first ask, step so often, and stop for ever."""
        tower = Tower(SLOT, base, many)
        for hand, count in enumerate(stopping, start=1):
            tower.ask(hand, 1)
            for step in range(count):
                if tower.pending(hand) is not None:
                    tower.step(hand)
        for number in range(3):
            room = tower.room(0)
            tower.ask(0, 2)
            steps = 0
            while tower.pending(0) is not None:
                told = tower.step(0)
                steps += 1
            self.assertLessEqual(steps, room)
            answers = oracle.walk(SLOT, 0, [operation for hand, operation in tower.rows()])[0]
            self.same(told, answers[tower.place(0)[0] - 1])
        self.stands_fit(tower, SLOT, many, 0)

    def test_what_was_answered_ahead_stands_ahead(self):
        for base, many in BASES:
            tower = Tower(WHEEL, base, many)
            for number in range(3 * many):
                hand = number * (many - 1) % many
                tower.ask(hand, 0)
                told = None
                while told is None:
                    told = tower.step(hand)
                self.same(told, number % 5)
            self.same(tower.rows(), [(number * (many - 1) % many, 0) for number in range(3 * many)])


class Refused(AskRefusals, Checks):
    def test_the_table_and_the_start_first(self):
        for table, at in bad_tables():
            for base, many in ((FLAG, 2), ((), 2), (FLAG, 3), (FLAG, 9)):
                self.refused_at(at, BadTable, Tower, table, base, many)
            with self.assertRaises(BadTable):
                Tower(table, FLAG, 2, start=9)
        for table in (STONE, FLAG, SLOT, STICKY, WHEEL):
            for start in (-999999999, -1, len(table[0]), 999999999):
                for base, many in ((FLAG, 2), (WHEEL, 2), ((), 2), (FLAG, 9), (SLOT, 2)):
                    self.refused(NoStand, Tower, table, base, many, start=start)

    def test_the_stand_is_one_of_the_table_not_of_the_base(self):
        self.same(Tower(WHEEL, FLAG, 2, start=4).stand(1), 4)
        self.refused(NoStand, Tower, FLAG, WHEEL, 2, start=4)

    def test_then_as_made_of_the_base(self):
        for base, at in bad_tables():
            for many in (2, 9):
                self.refused_at(at, BadTable, Tower, WHEEL, base, many)
        for many in (-999999999, -1, 0, 1, 5, 6, 999999999):
            for base in (FLAG, SLOT, STICKY):
                self.refused(BadMany, Tower, WHEEL, base, many)
        with self.assertRaises(TypeError):
            Tower(WHEEL, FLAG, 2, 1)

    def test_a_base_whose_level_is_too_low(self):
        for base, due, mark in LEVELS:
            for many in range(2, 5):
                if many > due:
                    self.same(self.refused(NoScheme, Tower, STICKY, base, many).level, due)
                else:
                    self.same(len(Tower(SLOT, base, many)), 0)
        for base, many in ((SLOT, 2), (FLAG, 3), (LEVELS[5][0], 4)):
            self.same(self.refused(NoScheme, Tower, STICKY, base, many, start=2).level, many - 1)

    def test_true_and_false_in_tables(self):
        wrong = (((False, True), (True, True)),)
        self.refused_at(0, BadTable, Tower, wrong, FLAG, 2)
        self.refused_at(0, BadTable, Tower, FLAG, wrong, 2)

    def fresh(self, table, many):
        return Tower(table, STICKY, many)

    def of_one_hand(self, tower):
        return tower.place, tower.pending, tower.stand, tower.room

    def test_operations_are_those_of_the_table(self):
        tower = Tower(FLAG, STICKY, 2)
        self.refused(NoOperation, tower.ask, 0, 1)
        tower = Tower(STICKY, FLAG, 2)
        tower.ask(0, 1)
        self.same(tower.pending(0), 1)


if __name__ == "__main__":
    unittest.main()
