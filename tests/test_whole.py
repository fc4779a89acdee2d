"""What holds of the whole program ([1] and [2]), and the interface's names and arguments."""

import copy
import inspect
import unittest

from checks import Checks
from samples import FLAG, SLOT, STICKY, WHEEL
from scheme_samples import FLAG_LATE, FLAG_TWO, STUBBORN
from whofirst import again, judge, levels, makers, schemes, tables, teams
from whofirst.errors import BadChoice, BadMany, BadScheme, BadTable, NoOperation, NoScheme, NoStand, TooWide
from whofirst.levels import level, mark_level, paper_holds, paper_of, telling

ARGUMENTS = (
    (tables.look_table, "(table)"),
    (tables.stands_of, "(table)"),
    (tables.done, "(table, stand, operation)"),
    (tables.gone, "(table, stand, operations)"),
    (tables.reached, "(table, stand)"),
    (tables.table_text, "(table)"),
    (tables.table_of, "(text)"),
    (tables.with_operation, "(table, rows)"),
    (tables.without, "(table, operation)"),
    (tables.with_row, "(table, operation, stand, row)"),
    (tables.turned, "(table, stands)"),
    (tables.beside, "(one, other)"),
    (teams.woven, "(table, choice, order)"),
    (teams.orders, "(many)"),
    (teams.seen, "(table, choice, hand)"),
    (teams.clash, "(table, choice)"),
    (teams.clash_holds, "(table, choice, paper)"),
    (teams.marks, "(table, choice)"),
    (teams.choices, "(table, many)"),
    (levels.telling, "(table, many)"),
    (levels.level, "(table, *, most=4)"),
    (levels.mark_level, "(table, *, most=4)"),
    (levels.paper_of, "(table, many)"),
    (levels.paper_holds, "(table, many, paper)"),
    (schemes.look_scheme, "(table, scheme)"),
    (schemes.most_steps, "(code)"),
    (judge.wholes, "(table, scheme, *, most=5000)"),
    (judge.broken, "(table, scheme, *, most=5000)"),
    (judge.weaving_holds, "(table, scheme, weaving)"),
    (judge.agree_paper, "(table, scheme, *, most=5000)"),
    (judge.agree_holds, "(table, scheme, paper)"),
    (judge.can_come, "(table, scheme, weaving, *, most=5000)"),
    (judge.last_open, "(table, scheme, *, most=5000)"),
    (judge.read_off, "(table, scheme, *, most=5000)"),
    (makers.made, "(table, many)"),
    (again.keeps, "(table, choice)"),
    (again.keeping, "(table, many)"),
    (again.keep_level, "(table, *, most=4)"),
    (again.made_again, "(table, many)"),
    (again.broken_again, "(table, scheme, *, most=5000)"),
    (again.again_holds, "(table, scheme, moves)"),
)
CHOICE = (0, (0,), (1,))


class Interface(unittest.TestCase):
    def test_arguments(self):
        for function, due in ARGUMENTS:
            self.assertEqual(str(inspect.signature(function)), due, function.__name__)

    def test_by_name(self):
        self.assertEqual(tables.done(operation=0, stand=1, table=FLAG), (1, 1))
        self.assertEqual(tables.with_row(row=(5, 0), stand=1, operation=0, table=FLAG), (((0, 1), (5, 0)),))
        self.assertEqual(teams.woven(order=(1,), choice=CHOICE, table=STICKY), ([2], 2))
        self.assertIs(paper_holds(paper=("tells", CHOICE), many=2, table=STICKY), True)
        self.assertEqual(mark_level(most=3, table=STICKY), 3)
        self.assertEqual(judge.wholes(most=9, scheme=STUBBORN, table=SLOT), 1)
        self.assertEqual(judge.can_come(most=99, weaving=[0, 0], scheme=FLAG_TWO, table=FLAG), [0])
        self.assertIs(judge.weaving_holds(weaving=[], scheme=STUBBORN, table=SLOT), True)
        self.assertIs(judge.agree_holds(paper=[], scheme=FLAG_TWO, table=FLAG), False)
        self.assertIs(again.again_holds(moves=[], scheme=STUBBORN, table=SLOT), True)
        self.assertEqual(len(makers.made(many=2, table=FLAG)[0]), 1)
        self.assertEqual(len(again.made_again(many=3, table=STICKY)[0]), 2)


class Agreeing(Checks):
    def test_a_paper_for_each_count_shows_how_many_can_agree(self):
        for table, due in ((SLOT, 1), (FLAG, 2), (STICKY, 4)):
            for many in (2, 3, 4):
                paper = paper_of(table, many)
                self.assertEqual(paper[0], "tells" if many <= due else "none")
                self.assertIs(paper_holds(table, many, paper), True)

    def test_schemes_agree_for_as_many_hands_as_the_level(self):
        for table in (SLOT, FLAG, STICKY):
            for many in (2, 3, 4):
                if many <= level(table):
                    self.assertIsNone(judge.broken(table, makers.made(table, many)))
                else:
                    self.refused(NoScheme, makers.made, table, many)


class Lists(Checks):
    def test_told_lists_are_new(self):
        calls = (
            lambda: tables.gone(WHEEL, 0, [0, 0])[0],
            lambda: tables.reached(WHEEL, 0),
            lambda: teams.woven(STICKY, CHOICE, (0, 1))[0],
            lambda: teams.orders(3),
            lambda: teams.seen(STICKY, CHOICE, 0),
            lambda: teams.choices(SLOT, 3),
            lambda: paper_of(SLOT, 2)[1],
            lambda: judge.broken(FLAG, FLAG_LATE),
            lambda: judge.broken(SLOT, STUBBORN),
            lambda: judge.agree_paper(FLAG, FLAG_TWO),
            lambda: judge.can_come(FLAG, FLAG_TWO, []),
            lambda: judge.last_open(FLAG, FLAG_TWO)[0],
            lambda: judge.last_open(FLAG, FLAG_TWO)[1],
            lambda: again.broken_again(FLAG, FLAG_TWO),
            lambda: again.broken_again(SLOT, STUBBORN),
        )
        for call in calls:
            told = call()
            self.assertIsInstance(told, list)
            due = copy.deepcopy(told)
            told.reverse()
            told.append("more")
            self.same(call(), due)

    def test_a_changed_list_changes_no_later_answer(self):
        teams.orders(4).clear()
        teams.choices(STICKY, 4).clear()
        paper_of(SLOT, 2)[1].clear()
        self.assertEqual((level(STICKY), mark_level(STICKY)), (4, 4))
        self.assertIs(paper_holds(SLOT, 2, paper_of(SLOT, 2)), True)
        judge.agree_paper(FLAG, FLAG_TWO).clear()
        judge.last_open(FLAG, FLAG_TWO)[0].append(0)
        judge.can_come(FLAG, FLAG_TWO, []).clear()
        self.assertIs(judge.agree_holds(FLAG, FLAG_TWO, judge.agree_paper(FLAG, FLAG_TWO)), True)
        self.same(judge.read_off(FLAG, FLAG_TWO), (0, (0,), (0,)))
        self.same(judge.can_come(FLAG, FLAG_TWO, []), [0, 1])

    def test_weavings_papers_and_moves_stay(self):
        weaving = [0, 7, 1, 0, 0, 0, -1, 1]
        paper = judge.agree_paper(FLAG, FLAG_TWO)
        moves = again.broken_again(FLAG, FLAG_TWO)
        due = copy.deepcopy((weaving, paper, moves))
        for call in (
            lambda: judge.can_come(FLAG, FLAG_TWO, weaving),
            lambda: judge.weaving_holds(FLAG, FLAG_LATE, weaving),
            lambda: judge.agree_holds(FLAG, FLAG_TWO, paper),
            lambda: judge.agree_holds(FLAG, FLAG_LATE, paper),
            lambda: again.again_holds(FLAG, FLAG_TWO, moves),
            lambda: again.again_holds(FLAG, FLAG_LATE, moves),
        ):
            call()
            self.same((weaving, paper, moves), due)
        for call, given in ((judge.can_come, weaving), (judge.weaving_holds, weaving), (judge.agree_holds, paper)):
            self.refused(BadScheme, call, FLAG, ((), ()), given)
        self.refused(BadScheme, again.again_holds, FLAG, ((), ()), moves)
        self.same((weaving, paper, moves), due)

    def test_what_is_handed_in_stays(self):
        operations = [0, 0, 0]
        told = tables.gone(WHEEL, 0, operations)
        self.assertEqual(operations, [0, 0, 0])
        operations.append(0)
        self.assertEqual(told, ([0, 1, 2], 3))
        wrong = [0, 5, 0]
        self.refused(NoOperation, tables.gone, WHEEL, 0, wrong)
        self.assertEqual(wrong, [0, 5, 0])
        pairs = paper_of(SLOT, 3)[1]
        due = copy.deepcopy(pairs)
        self.assertIs(paper_holds(SLOT, 3, ("none", pairs)), True)
        self.assertIs(paper_holds(FLAG, 3, ("none", pairs)), False)
        self.same(pairs, due)

    def test_no_list_is_kept_in_a_table(self):
        rows = [(0, 0), (0, 0)]
        self.refused_at(1, BadTable, tables.with_operation, FLAG, rows)
        self.refused_at(0, BadTable, tables.with_row, FLAG, 0, 0, [0, 0])
        self.assertEqual(rows, [(0, 0), (0, 0)])


class Refusals(Checks):
    def test_true_and_false_are_no_numbers(self):
        self.refused_at(0, BadTable, level, (((False, True), (True, True)),))
        self.refused(BadChoice, teams.marks, STICKY, (False, (False,), (True,)))
        self.refused(BadChoice, paper_holds, STICKY, 2, ("tells", (0, (False,), (True,))))
        self.assertIs(teams.clash_holds(SLOT, (0, (0,), (0,)), (0, (0,), (1, 0))), True)
        self.assertIs(teams.clash_holds(SLOT, (0, (0,), (0,)), (0, (False,), (1, 0))), False)
        self.refused(BadChoice, again.keeps, STICKY, (0, (False,), (True,)))
        end = ("end",)
        wrong_rows = (
            ("post", True), ("take", False, 0, 2), ("take", 0, False, 2), ("take", 0, 0, True), ("do", False, 0, ()),
            ("do", 0, False, ()), ("do", 0, 0, ((False, 2),)), ("do", 0, 0, ((0, True),)), ("look", False, ()),
            ("look", 0, ((True, 2),)), ("look", 0, ((1, True),)),
        )
        for row in wrong_rows:
            for call in (schemes.look_scheme, judge.wholes, judge.broken, again.broken_again):
                error = self.refused(BadScheme, call, SLOT, ((0,), ((end,), (row, end, end))))
                self.same((error.hand, error.row), (1, 0))
        error = self.refused(BadScheme, schemes.look_scheme, SLOT, ((0, False), ((end,), (end,))))
        self.same((error.hand, error.row), (-1, -1))

    def test_the_first_named_one_comes(self):
        bad = ()
        self.refused(BadTable, tables.done, bad, 9, 9)
        self.refused(NoStand, tables.done, FLAG, 9, 9)
        self.refused(NoStand, tables.gone, FLAG, 9, [9])
        self.refused(BadTable, teams.choices, bad, 9)
        self.refused(BadTable, teams.woven, bad, (), ())
        self.refused(BadChoice, teams.woven, FLAG, (), ())
        self.refused(BadChoice, teams.seen, FLAG, (), 9)
        self.refused(BadTable, telling, bad, 9)
        self.refused(BadTable, paper_of, bad, 9)
        self.refused(BadMany, paper_holds, FLAG, 9, ("tells", ()))
        self.refused(BadTable, judge.broken, bad, (), most=0)
        self.refused(BadScheme, judge.broken, FLAG, (), most=0)
        self.refused(BadMany, judge.broken, FLAG, FLAG_TWO, most=0)
        self.refused(TooWide, judge.broken, FLAG, FLAG_TWO, most=1)
        self.refused(BadTable, makers.made, bad, 9)
        self.refused(BadMany, makers.made, SLOT, 9)
        self.refused(NoScheme, makers.made, SLOT, 2)
        self.refused(BadTable, again.made_again, bad, 9)
        self.refused(BadMany, again.made_again, FLAG, 9)
        self.refused(NoScheme, again.made_again, FLAG, 2)
        self.refused(BadTable, again.keeps, bad, ())

    def test_a_refusal_changes_nothing(self):
        before = (level(FLAG), paper_of(FLAG, 3), teams.orders(2), teams.choices(FLAG, 2))
        for many in (1, 5):
            self.refused(BadMany, teams.orders, many)
            self.refused(BadMany, teams.choices, FLAG, many)
            self.refused(BadMany, paper_of, FLAG, many)
        self.same((level(FLAG), paper_of(FLAG, 3), teams.orders(2), teams.choices(FLAG, 2)), before)

    def test_a_refusal_changes_no_scheme_s_answers(self):
        def told():
            return (judge.broken(FLAG, FLAG_LATE), judge.agree_paper(FLAG, FLAG_TWO), makers.made(STICKY, 3),
                    again.broken_again(FLAG, FLAG_TWO), again.made_again(STICKY, 3), again.keep_level(FLAG))

        before = told()
        self.refused(TooWide, judge.broken, FLAG, FLAG_LATE, most=3)
        self.refused(TooWide, again.broken_again, FLAG, FLAG_TWO, most=3)
        self.refused(BadScheme, judge.agree_paper, FLAG, ((), FLAG_TWO[1]))
        self.refused(NoScheme, again.made_again, FLAG, 2)
        self.refused(NoScheme, makers.made, SLOT, 2)
        self.same(told(), before)

    def test_long_numbers(self):
        for number in (999999999, -999999999):
            self.refused(NoStand, tables.done, FLAG, number, 0)
            self.refused(BadMany, teams.orders, number)


if __name__ == "__main__":
    unittest.main()
