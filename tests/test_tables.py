"""Tables: what is one, what is done by them, and tables made of them ([3] and [5])."""

import unittest

from checks import Checks
from oracle import walk
from samples import FLAG, SLOT, STICKY, STONE, WHEEL, bad_tables, drawn_tables
from whofirst import tables
from whofirst.errors import BadTable, BadTurn, Full, NoOperation, NoStand
from whofirst.tables import beside, done, gone, look_table, reached, stands_of, turned
from whofirst.tables import with_operation, with_row, without

ALL = (STONE, FLAG, SLOT, STICKY, WHEEL, *drawn_tables(60))
NO_NUMBERS_OF_FIVE = (-1, 5, 6, 999999999, -999999999)


class Look(Checks):
    def test_counts(self):
        self.assertEqual((tables.MOST_STANDS, tables.MOST_OPERATIONS), (5, 4))

    def test_right_tables(self):
        for table in ALL:
            self.assertIsNone(look_table(table))

    def test_edges_that_are_right(self):
        self.assertIsNone(look_table((((0, 0),),)))
        self.assertIsNone(look_table((((9, 4),) * 5,) * 4))

    def test_every_answer_and_next(self):
        for answer in range(-2, 12):
            for onward in range(-2, 7):
                table = (((0, 0), (0, 0), (0, 0)), ((0, 0), (answer, onward), (0, 0)))
                if 0 <= answer <= 9 and 0 <= onward <= 2:
                    self.assertIsNone(look_table(table))
                else:
                    self.refused_at(1, BadTable, look_table, table)

    def test_what_is_no_table(self):
        for table, at in bad_tables():
            with self.subTest(table=table):
                self.refused_at(at, BadTable, look_table, table)

    def test_all_refuse_what_is_no_table_first(self):
        calls = (
            lambda table: stands_of(table),
            lambda table: done(table, -1, -1),
            lambda table: gone(table, -1, [-1]),
            lambda table: reached(table, -1),
            lambda table: tables.table_text(table),
            lambda table: with_operation(table, ()),
            lambda table: without(table, -1),
            lambda table: with_row(table, -1, -1, ()),
            lambda table: turned(table, ()),
            lambda table: beside(table, ()),
            lambda table: beside(FLAG, table),
            lambda table: beside((((0, 0),) * 5,) * 4, table),
        )
        for table, at in bad_tables():
            for call in calls:
                with self.subTest(table=table):
                    self.refused_at(at, BadTable, call, table)

    def test_stands_of(self):
        self.assertEqual([stands_of(table) for table in (STONE, FLAG, STICKY, WHEEL)], [1, 2, 3, 5])


class Doing(Checks):
    def test_done(self):
        self.same(done(STICKY, 0, 1), (2, 2))
        self.same(done(STICKY, 1, 1), (1, 1))
        for table in ALL:
            for operation, rows in enumerate(table):
                for stand, row in enumerate(rows):
                    self.same(done(table, stand, operation), row)

    def test_done_refuses(self):
        for number in NO_NUMBERS_OF_FIVE:
            self.refused(NoStand, done, WHEEL, number, 0)
            self.refused(NoOperation, done, WHEEL, 0, number)
            self.refused(NoStand, done, WHEEL, number, number)
        self.refused(NoStand, done, FLAG, 2, 0)
        self.refused(NoOperation, done, FLAG, 0, 1)

    def test_gone(self):
        self.same(gone(STICKY, 0, [1, 0, 1]), ([2, 2, 2], 2))
        self.same(gone(WHEEL, 3, [0, 0, 0]), ([3, 4, 0], 1))
        self.same(gone(WHEEL, 4, []), ([], 4))
        self.same(gone(WHEEL, 0, [0] * 300), ([0, 1, 2, 3, 4] * 60, 0))

    def test_gone_as_told_by_the_rows(self):
        for table in ALL:
            operations = [number % len(table) for number in (3, 1, 0, 2, 2, 1)]
            for stand in range(len(table[0])):
                self.same(gone(table, stand, operations), walk(table, stand, operations))

    def test_gone_refuses(self):
        for number in NO_NUMBERS_OF_FIVE:
            self.refused(NoStand, gone, WHEEL, number, [])
            self.refused(NoStand, gone, WHEEL, number, [number])
            self.refused(NoOperation, gone, WHEEL, 0, [0, 0, number])

    def test_reached(self):
        self.same(reached(STICKY, 0), [0, 1, 2])
        self.same(reached(STICKY, 2), [2])
        self.same(reached(STONE, 0), [0])
        self.same(reached(WHEEL, 3), [0, 1, 2, 3, 4])
        self.same(reached((((0, 4), (0, 1), (0, 2), (0, 3), (0, 2)),), 0), [0, 2, 4])

    def test_reached_goes_on_until_nothing_comes_more(self):
        for table in ALL:
            for stand in range(len(table[0])):
                found = {stand}
                for length in range(5):
                    found |= {rows[here][1] for rows in table for here in found}
                self.same(reached(table, stand), sorted(found))

    def test_reached_refuses(self):
        for number in NO_NUMBERS_OF_FIVE:
            self.refused(NoStand, reached, WHEEL, number)


class Changed(Checks):
    def test_with_operation(self):
        self.same(with_operation(FLAG, ((5, 0), (9, 0))), (((0, 1), (1, 1)), ((5, 0), (9, 0))))
        self.assertEqual(len(with_operation(SLOT, SLOT[0])), 4)

    def test_with_operation_refuses_full_first(self):
        four = with_operation(SLOT, SLOT[0])
        self.refused(Full, with_operation, four, SLOT[0])
        self.refused(Full, with_operation, four, ())
        self.refused(Full, with_operation, four, ((True, 0), (0, 0)))

    def test_with_operation_refuses_wrong_rows_by_its_number(self):
        wrong = (
            (), ((0, 0),), ((0, 0),) * 3, ((0, 0),) * 6, ((0, 0), (0, 2)), ((10, 0), (0, 0)), ((0, 0), (-1, 0)),
            ((True, 0), (0, 0)), ((0, False), (0, 0)), ((0, 0), (0,)), [(0, 0), (0, 0)], ((0, 0), [0, 0]), None,
        )
        for rows in wrong:
            self.refused_at(1, BadTable, with_operation, FLAG, rows)
            self.refused_at(3, BadTable, with_operation, SLOT, rows)

    def test_without(self):
        self.same(without(SLOT, 0), SLOT[1:])
        self.same(without(SLOT, 1), (SLOT[0], SLOT[2]))
        self.same(without(SLOT, 2), SLOT[:2])
        self.same(without(STICKY, 1), STICKY[:1])

    def test_without_refuses(self):
        for number in (-1, 3, 999999999):
            self.refused(NoOperation, without, SLOT, number)
        self.refused(NoOperation, without, FLAG, 1)
        self.refused(NoOperation, without, FLAG, -1)
        self.refused_at(0, BadTable, without, FLAG, 0)

    def test_with_row(self):
        self.same(with_row(FLAG, 0, 0, (9, 0)), (((9, 0), (1, 1)),))
        self.same(with_row(SLOT, 2, 1, (7, 0)), SLOT[:2] + (((0, 0), (7, 0)),))
        for table in ALL:
            last = len(table[0]) - 1
            for operation in range(len(table)):
                for stand in range(len(table[0])):
                    told = with_row(table, operation, stand, (9, last))
                    due = [list(rows) for rows in table]
                    due[operation][stand] = (9, last)
                    self.same(told, tuple(tuple(rows) for rows in due))

    def test_with_row_refuses(self):
        self.refused(NoStand, with_row, SLOT, 0, 2, (0, 0))
        self.refused(NoStand, with_row, SLOT, 0, -1, (0, 0))
        self.refused(NoOperation, with_row, SLOT, 3, 0, (0, 0))
        self.refused(NoOperation, with_row, SLOT, -1, 0, (0, 0))
        wrong = ((10, 0), (-1, 0), (0, 2), (0, -1), (True, 0), (0, False), (0,), (0, 0, 0), (), [0, 0], None)
        for row in wrong:
            self.refused_at(2, BadTable, with_row, SLOT, 2, 1, row)
            self.refused_at(0, BadTable, with_row, SLOT, 0, 0, row)

    def test_with_row_refuses_in_order(self):
        self.refused(NoStand, with_row, SLOT, 3, 2, (10, 0))
        self.refused(NoStand, with_row, SLOT, 0, 2, (10, 0))
        self.refused(NoOperation, with_row, SLOT, 3, 0, (10, 0))

    def test_turned(self):
        table = (((0, 1), (1, 2), (2, 2)),)
        self.same(turned(table, (2, 0, 1)), (((1, 1), (2, 1), (0, 0)),))
        self.same(turned(table, (0, 1, 2)), table)
        self.same(turned(STONE, (0,)), STONE)

    def test_turned_answers_and_goes_alike(self):
        names = {1: (0,), 2: (1, 0), 3: (1, 2, 0), 4: (3, 1, 0, 2), 5: (4, 2, 0, 1, 3)}
        for table in ALL:
            stands = names[len(table[0])]
            told = turned(table, stands)
            for operation in range(len(table)):
                for stand in range(len(table[0])):
                    answer, onward = done(table, stand, operation)
                    self.same(done(told, stands[stand], operation), (answer, stands[onward]))

    def test_turned_refuses(self):
        wrong = (
            (), (0,), (0, 1), (0, 0, 1), (0, 1, 3), (-1, 0, 1), (0, 1, 2, 2), (0, 1, 2, 3), (1, 2, 3), (0, True, 2),
            [0, 1, 2], ("0", "1", "2"), None,
        )
        for stands in wrong:
            self.refused(BadTurn, turned, STICKY, stands)


class Beside(Checks):
    def test_two_tables(self):
        three = (((0, 1), (1, 2), (2, 0)),)
        self.same(beside(FLAG, FLAG), (((0, 2), (0, 3), (1, 2), (1, 3)), ((0, 1), (1, 1), (0, 3), (1, 3))))
        self.same(beside(STONE, three), (((7, 0), (7, 1), (7, 2)), three[0]))
        self.same(beside(three, STONE), (three[0], ((7, 0), (7, 1), (7, 2))))

    def test_each_turns_its_own_part_alone(self):
        small = [table for table in ALL if len(table) <= 2]
        for one in small:
            for other in small:
                k = len(other[0])
                if len(one[0]) * k > 5:
                    continue
                both = beside(one, other)
                self.assertIsNone(look_table(both))
                self.assertEqual((len(both), stands_of(both)), (len(one) + len(other), len(one[0]) * k))
                for a in range(len(one[0])):
                    for b in range(k):
                        for operation in range(len(one)):
                            answer, onward = done(one, a, operation)
                            self.same(done(both, a * k + b, operation), (answer, onward * k + b))
                        for operation in range(len(other)):
                            answer, onward = done(other, b, operation)
                            told = done(both, a * k + b, len(one) + operation)
                            self.same(told, (answer, a * k + onward))

    def test_full(self):
        self.refused(Full, beside, STICKY, FLAG)
        self.refused(Full, beside, FLAG, STICKY)
        self.refused(Full, beside, SLOT, STONE + STONE)
        self.refused(Full, beside, STONE * 4, STONE)
        self.refused(Full, beside, WHEEL, WHEEL)

    def test_just_not_full(self):
        self.assertEqual(stands_of(beside(WHEEL, STONE)), 5)
        self.assertEqual(len(beside(SLOT, STONE)), 4)
        self.assertEqual(len(beside(STONE, STONE * 3)), 4)


if __name__ == "__main__":
    unittest.main()
