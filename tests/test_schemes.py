"""Schemes, their refusals, and the most steps of a code ([10])."""

import unittest

import slow
from checks import Checks
from samples import FLAG, SLOT, STICKY, STONE, WHEEL, bad_tables
from scheme_samples import END, FLAG_TWO, ONLY_END, Draw, bad_schemes, drawn_schemes, idle_code, odd_schemes
from scheme_samples import right_schemes, row_cases, with_code
from whofirst.errors import BadScheme, BadTable
from whofirst.schemes import look_scheme, most_steps


class Right(unittest.TestCase):
    def test_the_edges(self):
        for scheme in right_schemes():
            self.assertIsNone(look_scheme(SLOT, scheme))

    def test_drawn_ones(self):
        for table, scheme in drawn_schemes(300):
            self.assertIsNone(look_scheme(table, scheme))

    def test_each_slot_hand_and_further_row(self):
        for slot in range(3):
            for many in (2, 3, 4):
                for hand in range(many):
                    for to in (2, 3):
                        code = (END, ("take", hand, slot, to), ("post", slot), END)
                        self.assertIsNone(look_scheme(STONE, ((), (code,) * many)))

    def test_the_stands_and_operations_of_the_table(self):
        for table in (STONE, FLAG, SLOT, STICKY, WHEEL):
            for start in range(len(table[0])):
                for operation in range(len(table)):
                    scheme = ((start,), (ONLY_END, (("do", 0, operation, ((9, 1),)), END)))
                    self.assertIsNone(look_scheme(table, scheme))


class Wrong(Checks):
    def refused_where(self, table, scheme, hand, row):
        error = self.refused(BadScheme, look_scheme, table, scheme)
        self.same((error.hand, error.row), (hand, row))

    def test_each_way_to_be_wrong(self):
        for scheme, hand, row in bad_schemes():
            self.refused_where(SLOT, scheme, hand, row)

    def test_each_wrong_row(self):
        for row in row_cases():
            code = (("post", 0), row, ("post", 0), END)
            for hand in range(3):
                self.refused_where(SLOT, with_code(((0, 0), (ONLY_END,) * 3), hand, code), hand, 1)

    def test_the_first_wrong_row_of_the_first_wrong_hand(self):
        rows = row_cases()
        for one, other in zip(rows, reversed(rows)):
            self.refused_where(SLOT, ((0, 0), (ONLY_END, (END, one, other, END), (other, END))), 1, 1)

    def test_rows_behind_an_end_row(self):
        for row in row_cases():
            self.refused_where(SLOT, ((0, 0), ((END, row, END, END), ONLY_END, ONLY_END)), 0, 1)

    def test_of_another_kind(self):
        for scheme in odd_schemes():
            self.refused_where(SLOT, scheme, -1, -1)

    def test_by_the_table(self):
        for table, wrong in ((STONE, 1), (FLAG, 2), (STICKY, 3), (WHEEL, 5)):
            self.refused_where(table, ((0, wrong), (ONLY_END, ONLY_END)), -1, -1)
        for table, wrong in ((STONE, 1), (FLAG, 1), (STICKY, 2), (SLOT, 3)):
            self.refused_where(table, ((0,), (ONLY_END, (("do", 0, wrong, ()), END))), 1, 0)

    def test_by_the_counts_of_hands_and_things(self):
        for many in (2, 3, 4):
            code = (("take", many, 0, 1), END)
            self.refused_where(STONE, ((), (code,) * many), 0, 0)
        for things in range(7):
            for row in (("do", things, 0, ()), ("look", things, ())):
                self.refused_where(STONE, ((0,) * things, (ONLY_END, (row, END))), 1, 0)

    def test_a_bad_table_comes_first(self):
        for table, at in bad_tables():
            for scheme in (FLAG_TWO, bad_schemes()[0][0], bad_schemes()[-1][0], ()):
                self.refused_at(at, BadTable, look_scheme, table, scheme)


class MostSteps(Checks):
    def test_known_codes(self):
        ten = tuple((number, 12 - number) for number in range(10))
        cases = (
            (ONLY_END, 0),
            ((END, ("post", 0), END), 0),
            ((("post", 0), END), 1),
            (idle_code(60), 59),
            (FLAG_TWO[1][0], 3),
            ((("take", 1, 0, 3), END, END, ("post", 0), ("post", 0), END), 3),
            ((("take", 1, 0, 2), ("post", 0), END), 2),
            ((("do", 0, 0, ((5, 2),)), END, ("post", 0), END), 2),
            ((("do", 0, 0, ((5, 3),)), ("post", 0), ("post", 0), END), 3),
            ((("look", 0, ((0, 2), (9, 4))), END, ("post", 0), END, ("post", 0), ("post", 1), END), 3),
            ((("do", 0, 0, ten), END, END) + (("post", 0),) * 10 + ONLY_END, 11),
            ((("look", 0, ten[:-1]), END, END) + (("post", 0),) * 10 + ONLY_END, 10),
        )
        for code, due in cases:
            self.same(most_steps(code), due)
        self.same(most_steps(code=ONLY_END), 0)

    def test_by_all_ways(self):
        for table, scheme in drawn_schemes(300):
            for code in scheme[1]:
                self.same(most_steps(code), slow.longest(code))

    def test_no_hand_takes_more(self):
        draw = Draw(3)
        for table, scheme in drawn_schemes(120):
            world = slow.World(table, scheme)
            steps = [0 for hand in world.hands()]
            while world.going():
                hand = draw.one_of(world.going())
                world.step(hand)
                steps[hand] += 1
            for hand in world.hands():
                self.assertLessEqual(steps[hand], most_steps(scheme[1][hand]))


if __name__ == "__main__":
    unittest.main()
