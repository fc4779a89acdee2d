"""Schemes that are made so that they agree ([12])."""

import unittest

import slow
from checks import Checks
from samples import FLAG, LEVELS, PAIRED, SLOT, STICKY, TWISTED, WHEEL, bad_tables, drawn_tables
from scheme_samples import Draw
from whofirst.errors import BadMany, BadTable, NoScheme
from whofirst.judge import agree_holds, agree_paper, broken, read_off, wholes
from whofirst.levels import level, telling
from whofirst.makers import made
from whofirst.schemes import look_scheme
from whofirst.teams import clash

TABLES = [table for table, due, mark in LEVELS] + list(PAIRED + TWISTED) + drawn_tables(100)
# (table, count of hands) up to each table's level
MADE = [(table, many) for table in TABLES for many in range(2, level(table) + 1)]


class Made(Checks):
    def test_there_are_enough_of_each_count(self):
        for many in (2, 3, 4):
            self.assertGreater(len([table for table, count in MADE if count == many]), 10)

    def test_a_scheme_with_one_thing_fewer_than_hands(self):
        for table, many in MADE:
            scheme = made(table, many)
            self.assertIsNone(look_scheme(table, scheme))
            starts, codes = scheme
            self.assertEqual((len(starts), len(codes)), (many - 1, many))
            for code in codes:
                self.assertLessEqual(len(code), 59)
            self.same(made(table, many), scheme)

    def test_two_hands(self):
        for table, many in MADE:
            if many == 2:
                scheme = made(table, many)
                self.assertLessEqual(wholes(table, scheme), 1000)
                self.assertLessEqual(len(slow.all_worlds(table, scheme)), 1000)
                self.assertTrue(slow.agrees(table, scheme))
                self.assertIsNone(broken(table, scheme))

    def test_three_hands(self):
        for table, many in MADE:
            if many == 3:
                self.assertIsNone(broken(table, made(table, many)))

    def test_four_hands_of_sticky(self):
        self.assertIsNone(broken(STICKY, made(STICKY, 4)))

    def test_a_paper_and_a_choice_that_show_it(self):
        for table, many in MADE[::3]:
            if many < 4:
                scheme = made(table, many)
                self.assertIs(agree_holds(table, scheme, agree_paper(table, scheme)), True)
                self.assertIsNone(clash(table, read_off(table, scheme)))

    def test_drawn_weavings(self):
        draw = Draw(21)
        for table, many in MADE:
            scheme = made(table, many)
            for number in range(200 if table in PAIRED + TWISTED else 12):
                self.one_word(slow.World(table, scheme), draw)

    def test_pairs_of_hands(self):
        for table in PAIRED:
            start, ones, others = telling(table, 4)
            self.assertEqual((len(ones), len(others)), (2, 2))

    def one_word(self, world, draw):
        """By drawn bursts of steps, each hand may stop for ever; those that end hold one word of one that began."""
        began = set()
        stopped = {hand for hand in world.hands() if draw.below(5) == 0}
        while set(world.going()) - stopped:
            hand = draw.one_of(world.going())
            began.add(hand)
            for step in range(1 + draw.below(5)):
                if not world.ended(hand):
                    world.step(hand)
            if hand in stopped and draw.below(3) == 0:
                stopped = set(world.hands())
            self.assertLess(len(world.end_words()), 2)
            self.assertLessEqual(world.end_words(), began)

    def test_alone_each_ends_with_its_own_word(self):
        for table, many in MADE:
            for hand in range(many):
                world = slow.World(table, made(table, many))
                while not world.ended(hand):
                    world.step(hand)
                self.assertEqual(world.end_words(), {hand})


class Refused(Checks):
    def test_more_hands_than_the_level(self):
        for table in TABLES:
            due = level(table)
            for many in range(due + 1, 5):
                self.same(self.refused(NoScheme, made, table, many).level, due)

    def test_one_more_than_the_level(self):
        self.same(self.refused(NoScheme, made, SLOT, 2).level, 1)
        self.same(self.refused(NoScheme, made, FLAG, 3).level, 2)
        self.same(self.refused(NoScheme, made, FLAG, 4).level, 2)
        self.same(self.refused(NoScheme, made, LEVELS[5][0], 4).level, 3)
        for table, due, mark in LEVELS:
            if due > 1:
                self.assertEqual(len(made(table, due)[1]), due)

    def test_counts(self):
        for many in (-999999999, -1, 0, 1, 5, 6, 999999999):
            for table in (SLOT, FLAG, WHEEL, STICKY):
                self.refused(BadMany, made, table, many)

    def test_bad_tables_first(self):
        for table, at in bad_tables():
            for many in (0, 2, 5):
                self.refused_at(at, BadTable, made, table, many)


if __name__ == "__main__":
    unittest.main()
