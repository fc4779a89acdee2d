"""Choices, orders, what hands see, clashes, and choices that mark ([6] to [9])."""

import unittest

import oracle
from checks import Checks
from samples import FLAG, SLOT, STICKY, STONE, WHEEL, bad_choices, bad_orders, bad_tables, drawn_tables
from whofirst import teams
from whofirst.errors import BadChoice, BadMany, BadOrder, BadTable, NoHand
from whofirst.teams import choices, clash, clash_holds, marks, orders, seen, woven

WRONG_COUNTS = (-999999999, -1, 0, 1, 5, 6, 999999999)
THREE = (0, (0,), (1, 2))
WITH_A_CHOICE = (
    lambda table, choice: woven(table, choice, ()),
    lambda table, choice: seen(table, choice, -1),
    lambda table, choice: clash(table, choice),
    lambda table, choice: clash_holds(table, choice, (0, (0,), (1,))),
    lambda table, choice: marks(table, choice),
)


def some_choices(table):
    """Choices for two, three and four hands, also such as are none up to likeness."""
    last = len(table) - 1
    middle = last // 2
    for start in {0, len(table[0]) - 1}:
        yield start, (0,), (last,)
        yield start, (last, 0), (middle,)
        yield start, (0,), (middle, last)
        yield start, (last, middle, 0), (last,)
        yield start, (0, middle), (last, last)


class Choices(Checks):
    def test_counts(self):
        self.assertEqual(teams.MOST_HANDS, 4)

    def test_what_is_no_choice(self):
        for choice in bad_choices():
            for call in WITH_A_CHOICE:
                with self.subTest(choice=choice):
                    self.refused(BadChoice, call, SLOT, choice)

    def test_what_is_no_table_comes_first(self):
        for table, at in bad_tables():
            for choice in ((0, (0,), (0,)), (), None):
                for call in WITH_A_CHOICE:
                    self.refused_at(at, BadTable, call, table, choice)

    def test_all_counts_of_hands_are_right(self):
        for ones in range(1, 4):
            for others in range(1, 5 - ones):
                choice = (1, (2,) * ones, (0,) * others)
                self.same(woven(SLOT, choice, (0,)), ([1], 1))

    def test_up_to_likeness(self):
        self.same(choices(STONE, 2), [(0, (0,), (0,))])
        self.same(choices(STONE, 3), [(0, (0,), (0, 0))])
        self.same(choices(STONE, 4), [(0, (0,), (0, 0, 0)), (0, (0, 0), (0, 0))])
        two = STONE * 2
        self.same(choices(two, 2), [(0, (0,), (0,)), (0, (0,), (1,)), (0, (1,), (1,))])
        self.same(choices(two, 3), [
            (0, (0,), (0, 0)), (0, (0,), (0, 1)), (0, (0,), (1, 1)),
            (0, (1,), (0, 0)), (0, (1,), (0, 1)), (0, (1,), (1, 1)),
        ])
        self.same(choices(two, 4)[:6], [
            (0, (0,), (0, 0, 0)), (0, (0,), (0, 0, 1)), (0, (0,), (0, 1, 1)), (0, (0,), (1, 1, 1)),
            (0, (0, 0), (0, 0)), (0, (0, 0), (0, 1)),
        ])

    def test_as_filtered_from_all(self):
        for table in (STONE, FLAG, SLOT, STICKY, WHEEL, *drawn_tables(20)):
            for many in (2, 3, 4):
                self.same(choices(table, many), oracle.choices(table, many))

    def test_how_many_at_most(self):
        largest = (((0, 0),) * 5,) * 4
        self.assertEqual([len(choices(largest, many)) for many in (2, 3, 4)], [50, 200, 675])

    def test_choices_refuses(self):
        for many in WRONG_COUNTS:
            self.refused(BadMany, choices, SLOT, many)
            for table, at in bad_tables():
                self.refused_at(at, BadTable, choices, table, many)


class Orders(Checks):
    def test_orders(self):
        self.same(orders(2), [(0,), (1,), (0, 1), (1, 0)])
        self.same(orders(3), [
            (0,), (1,), (2,), (0, 1), (0, 2), (1, 0), (1, 2), (2, 0), (2, 1),
            (0, 1, 2), (0, 2, 1), (1, 0, 2), (1, 2, 0), (2, 0, 1), (2, 1, 0),
        ])
        for many in (2, 3, 4):
            self.same(orders(many), oracle.orders(many))
        self.assertEqual(len(orders(4)), 64)

    def test_orders_refuses(self):
        for many in WRONG_COUNTS:
            self.refused(BadMany, orders, many)

    def test_woven(self):
        self.same(woven(STICKY, (0, (0,), (1, 1)), (2, 0)), ([2, 2], 2))
        self.same(woven(STICKY, (0, (0,), (1, 1)), (0,)), ([1], 1))
        self.same(woven(WHEEL, (3, (0, 0), (0, 0)), (3, 1, 0, 2)), ([3, 4, 0, 1], 2))

    def test_woven_by_all_orders(self):
        for table in (SLOT, STICKY, *drawn_tables(20)):
            for choice in some_choices(table):
                operations = choice[1] + choice[2]
                for order in oracle.orders(len(operations)):
                    due = oracle.walk(table, choice[0], [operations[hand] for hand in order])
                    self.same(woven(table, choice, order), due)

    def test_what_is_no_order(self):
        for order in bad_orders():
            with self.subTest(order=order):
                self.refused(BadOrder, woven, SLOT, THREE, order)

    def test_orders_of_all_counts(self):
        self.refused(BadOrder, woven, SLOT, (0, (0,), (1,)), (2,))
        self.refused(BadOrder, woven, SLOT, (0, (0, 0), (1, 1)), (4,))
        self.same(woven(SLOT, (0, (0, 0), (1, 1)), (3,)), ([0], 1))


class Seen(Checks):
    def test_seen(self):
        self.same(seen(FLAG, (0, (0,), (0,)), 0), [(0, 1, 0), (1, 1, 1)])
        self.same(seen(FLAG, (0, (0,), (0,)), 1), [(0, 1, 1), (1, 1, 0)])
        self.same(seen(STONE, (0, (0,), (0,)), 0), [(7, 0, 0), (7, 0, 1)])

    def test_seen_by_all_orders(self):
        for table in (SLOT, STICKY, WHEEL, *drawn_tables(20)):
            for choice in some_choices(table):
                for hand in range(len(choice[1]) + len(choice[2])):
                    self.same(seen(table, choice, hand), oracle.seen(table, choice, hand))

    def test_seen_refuses(self):
        for hand in (-1, 3, 4, 999999999):
            self.refused(NoHand, seen, SLOT, THREE, hand)
        self.refused(NoHand, seen, SLOT, (0, (0,), (1,)), 2)
        self.refused(NoHand, seen, SLOT, (0, (0, 0), (1, 1)), 4)


class Clashes(Checks):
    def test_no_clash(self):
        self.assertIsNone(clash(FLAG, (0, (0,), (0,))))
        self.assertIsNone(clash(STICKY, (0, (0, 0), (1, 1))))

    def test_clash(self):
        self.assertIn(clash(STONE, (0, (0,), (0,))), oracle.clashes(STONE, (0, (0,), (0,))))

    def test_clash_where_and_only_where_one_is(self):
        for table in (FLAG, SLOT, STICKY, WHEEL, *drawn_tables(60)):
            for choice in some_choices(table):
                due = oracle.clashes(table, choice)
                told = clash(table, choice)
                if told is None:
                    self.assertEqual(due, [])
                else:
                    self.assertIn(told, due)
                    self.assertIs(clash_holds(table, choice, told), True)
                self.same(clash(table, choice), told)

    def test_clash_holds_of_all_triples(self):
        for table in (FLAG, SLOT, STICKY, *drawn_tables(10)):
            for choice in ((0, (0,), (0,)), (0, (0, 0), (0,)), (0, (0,), (len(table) - 1, 0))):
                many = len(choice[1]) + len(choice[2])
                due = set(oracle.clashes(table, choice))
                for hand in range(-1, many + 1):
                    for first in oracle.orders(many):
                        for second in oracle.orders(many):
                            paper = (hand, first, second)
                            self.assertIs(clash_holds(table, choice, paper), paper in due)

    def test_wrong_orders_are_no_clash(self):
        choice = (0, (0,), (0, 0))
        self.assertIs(clash_holds(STONE, choice, (1, (0, 1), (1,))), True)
        wrong = [order for order in bad_orders() if isinstance(order, tuple)]
        wrong += [(0, 1, 1), (0, 1, -1), (0, 1, 3), (0, True), (False, 1)]
        for order in wrong:
            with self.subTest(order=order):
                self.assertIs(clash_holds(STONE, choice, (1, order, (1,))), False)
        for order in [(1, 1), (1, 3), (1, -1), (), (True,), (1, 0, 0)]:
            with self.subTest(order=order):
                self.assertIs(clash_holds(STONE, choice, (1, (0, 1), order)), False)

    def test_the_teams_stand_in_their_order(self):
        choice = (0, (0,), (0,))
        self.assertIs(clash_holds(STONE, choice, (0, (0,), (1, 0))), True)
        self.assertIs(clash_holds(STONE, choice, (0, (1, 0), (0,))), False)
        self.assertIs(clash_holds(STONE, choice, (0, (0,), (0, 1))), False)
        self.assertIs(clash_holds(STONE, choice, (0, (1, 0), (1, 0))), False)

    def test_the_hand_is_in_both(self):
        choice = (0, (0,), (0, 0))
        self.assertIs(clash_holds(STONE, choice, (0, (0,), (1, 2))), False)
        self.assertIs(clash_holds(STONE, choice, (1, (0,), (1,))), False)
        self.assertIs(clash_holds(STONE, choice, (1, (0, 1, 2), (1, 0, 2))), True)
        for hand in (-1, 3, 999999999, True):
            self.assertIs(clash_holds(STONE, choice, (hand, (0, 1, 2), (1, 0, 2))), False)

    def test_both_answer_and_last_stand_count(self):
        answers_alone = (((1, 0),), ((2, 0),))
        self.assertIsNotNone(clash(answers_alone, (0, (0,), (1,))))
        # Hand 0 is answered the same by both orders, but the last stands are unlike.
        parted = (((0, 1), (0, 1), (0, 2)), ((0, 2), (0, 1), (0, 2)))
        self.assertIs(clash_holds(parted, (0, (0,), (1,)), (0, (0,), (1, 0))), False)


class Marks(Checks):
    def test_marks(self):
        self.assertIs(marks(STICKY, (0, (0, 0), (1, 1))), True)
        self.assertIs(marks(STICKY, (1, (0,), (1,))), False)
        self.assertIs(marks(FLAG, (0, (0,), (0,))), False)
        self.assertIs(marks(STONE, (0, (0,), (0,))), False)

    def test_marks_by_all_orders(self):
        told = []
        for table in (STICKY, *drawn_tables(120)):
            for choice in some_choices(table):
                told.append(marks(table, choice))
                self.assertIs(told[-1], oracle.marks(table, choice))
        self.assertIn(True, told)
        self.assertIn(False, told)


if __name__ == "__main__":
    unittest.main()
