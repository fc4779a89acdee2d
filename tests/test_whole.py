"""What holds of the whole program ([1] and [2])."""

import copy
import unittest

from ask_refusals import answered
from checks import Checks
from samples import FLAG, SLOT, STICKY, WHEEL
from scheme_samples import FLAG_LATE, FLAG_TWO, STUBBORN
from slow_rolls import questions
from slow_runs import QUESTIONS, whole_view
from whofirst import again, judge, makers, schemes, tables, teams, texts
from whofirst.errors import BadChoice, BadMany, BadScheme, BadTable, BadWishes, Busy, Ended, Idle, NoHand
from whofirst.errors import NoOperation, NoScheme, NoStand, NothingLeft, Still, TooWide, Undone
from whofirst.levels import level, mark_level, paper_holds, paper_of, telling
from whofirst.rolls import Roll
from whofirst.runs import Run
from whofirst.towers import Tower

CHOICE = (0, (0,), (1,))


class Agreeing(Checks):
    def test_a_paper_for_each_count_shows_how_many_can_agree(self):
        for table, due in ((SLOT, 1), (FLAG, 2), (STICKY, 4)):
            for many in (2, 3, 4):
                paper = paper_of(table, many)
                self.assertEqual(paper[0], "tells" if many <= due else "none")
                self.assertIs(paper_holds(table, many, paper), True)

    def test_schemes_agree_for_as_many_hands_as_the_level(self):
        for table in (SLOT, FLAG, STICKY):
            for many in (2, 3, 4):
                if many <= level(table):
                    self.assertIsNone(judge.broken(table, makers.made(table, many)))
                else:
                    self.refused(NoScheme, makers.made, table, many)


class Lists(Checks):
    def test_told_lists_are_new(self):
        calls = (
            lambda: tables.gone(WHEEL, 0, [0, 0])[0],
            lambda: tables.reached(WHEEL, 0),
            lambda: teams.woven(STICKY, CHOICE, (0, 1))[0],
            lambda: teams.orders(3),
            lambda: teams.seen(STICKY, CHOICE, 0),
            lambda: teams.choices(SLOT, 3),
            lambda: paper_of(SLOT, 2)[1],
            lambda: judge.broken(FLAG, FLAG_LATE),
            lambda: judge.broken(SLOT, STUBBORN),
            lambda: judge.agree_paper(FLAG, FLAG_TWO),
            lambda: judge.can_come(FLAG, FLAG_TWO, []),
            lambda: judge.last_open(FLAG, FLAG_TWO)[0],
            lambda: judge.last_open(FLAG, FLAG_TWO)[1],
            lambda: again.broken_again(FLAG, FLAG_TWO),
            lambda: again.broken_again(SLOT, STUBBORN),
        )
        for call in calls:
            told = call()
            self.assertIsInstance(told, list)
            due = copy.deepcopy(told)
            told.reverse()
            told.append("more")
            self.same(call(), due)

    def test_a_changed_list_changes_no_later_answer(self):
        teams.orders(4).clear()
        teams.choices(STICKY, 4).clear()
        paper_of(SLOT, 2)[1].clear()
        self.assertEqual((level(STICKY), mark_level(STICKY)), (4, 4))
        self.assertIs(paper_holds(SLOT, 2, paper_of(SLOT, 2)), True)
        judge.agree_paper(FLAG, FLAG_TWO).clear()
        judge.last_open(FLAG, FLAG_TWO)[0].append(0)
        judge.can_come(FLAG, FLAG_TWO, []).clear()
        self.assertIs(judge.agree_holds(FLAG, FLAG_TWO, judge.agree_paper(FLAG, FLAG_TWO)), True)
        self.same(judge.read_off(FLAG, FLAG_TWO), (0, (0,), (0,)))
        self.same(judge.can_come(FLAG, FLAG_TWO, []), [0, 1])

    def test_weavings_papers_and_moves_stay(self):
        weaving = [0, 7, 1, 0, 0, 0, -1, 1]
        paper = judge.agree_paper(FLAG, FLAG_TWO)
        moves = again.broken_again(FLAG, FLAG_TWO)
        due = copy.deepcopy((weaving, paper, moves))
        for call in (
            lambda: judge.can_come(FLAG, FLAG_TWO, weaving),
            lambda: judge.weaving_holds(FLAG, FLAG_LATE, weaving),
            lambda: judge.agree_holds(FLAG, FLAG_TWO, paper),
            lambda: judge.agree_holds(FLAG, FLAG_LATE, paper),
            lambda: again.again_holds(FLAG, FLAG_TWO, moves),
            lambda: again.again_holds(FLAG, FLAG_LATE, moves),
        ):
            call()
            self.same((weaving, paper, moves), due)
        for call, given in ((judge.can_come, weaving), (judge.weaving_holds, weaving), (judge.agree_holds, paper)):
            self.refused(BadScheme, call, FLAG, ((), ()), given)
        self.refused(BadScheme, again.again_holds, FLAG, ((), ()), moves)
        self.same((weaving, paper, moves), due)

    def test_what_is_handed_in_stays(self):
        operations = [0, 0, 0]
        told = tables.gone(WHEEL, 0, operations)
        self.assertEqual(operations, [0, 0, 0])
        operations.append(0)
        self.assertEqual(told, ([0, 1, 2], 3))
        wrong = [0, 5, 0]
        self.refused(NoOperation, tables.gone, WHEEL, 0, wrong)
        self.assertEqual(wrong, [0, 5, 0])
        pairs = paper_of(SLOT, 3)[1]
        due = copy.deepcopy(pairs)
        self.assertIs(paper_holds(SLOT, 3, ("none", pairs)), True)
        self.assertIs(paper_holds(FLAG, 3, ("none", pairs)), False)
        self.same(pairs, due)

    def test_no_list_is_kept_in_a_table(self):
        rows = [(0, 0), (0, 0)]
        self.refused_at(1, BadTable, tables.with_operation, FLAG, rows)
        self.refused_at(0, BadTable, tables.with_row, FLAG, 0, 0, [0, 0])
        self.assertEqual(rows, [(0, 0), (0, 0)])


def begun_run():
    """Hand 0 has ended, hand 1 has stopped, hand 2 may go on, and a step of hand 2 was taken back."""
    code = FLAG_TWO[1][0]
    run = Run(FLAG, ((0,), (code, code, code)))
    run.go([("step", 0), ("step", 1), ("step", 2), ("step", 0), ("stop", 1), ("step", 2)])
    run.back()
    return run


def begun_rolls():
    """A roll and a tower in which hand 0 was answered, hand 1 has asked, and hand 2 has asked and gone a little."""
    found = [Roll(SLOT, 3), Tower(SLOT, STICKY, 3)]
    for thing in found:
        answered(thing, 0, 1)
        thing.ask(1, 2)
        thing.ask(2, 0)
        thing.step(2)
    return found


def spoil(told):
    """Change a list as its caller may."""
    for one in told:
        if isinstance(one, list):
            one.append("inner")
    told.reverse()
    told.append("more")


class Objects(Checks):
    def test_told_lists_of_runs_are_new(self):
        run = begun_run()
        before = whole_view(run)
        for name in (*QUESTIONS, "left"):
            if name != "busy":
                told = getattr(run, name)()
                self.assertIsInstance(told, list)
                due = copy.deepcopy(told)
                spoil(told)
                self.same(getattr(run, name)(), due)
        self.same(whole_view(run), before)
        spoil(run.go([("step", 2)]))
        run.back()
        self.same(whole_view(run), before)

    def test_told_lists_of_a_run_change_no_twin(self):
        run = begun_run()
        other = run.twin()
        before = whole_view(other)
        for name in ("places", "stands", "words", "slots", "ended", "stopped", "log"):
            spoil(getattr(run, name)())
        self.same(whole_view(other), before)

    def test_told_lists_of_rolls_and_towers_are_new(self):
        for thing in begun_rolls():
            before = questions(thing, 3)
            self.assertIsInstance(thing.rows(), list)
            self.assertGreater(len(thing.rows()), 0)
            spoil(thing.rows())
            self.same(questions(thing, 3), before)
            while thing.pending(1) is not None:
                thing.step(1)
            self.same(len(thing.rows()), len(thing))

    def test_what_is_handed_in_stays(self):
        run = begun_run()
        deeds = [("step", 2), ("step", 2)]
        run.go(deeds)
        self.same(deeds, [("step", 2), ("step", 2)])
        log = run.log()
        deeds.clear()
        self.same(run.log(), log)
        wrong = [("step", 9), ("step", 0)]
        self.refused(Undone, run.go, wrong)
        self.same(wrong, [("step", 9), ("step", 0)])
        fresh = Run(FLAG, FLAG_TWO)
        hands = [1, 0, 1]
        fresh.finish(hands)
        self.same(hands, [1, 0, 1])
        log = fresh.log()
        hands.reverse()
        self.same(fresh.log(), log)

    def test_what_could_be_changed_later_is_refused(self):
        code = FLAG_TWO[1][0]
        for scheme in ([(0,), (code, code)], ([0], (code, code)), ((0,), [code, code]), ((0,), (code, list(code)))):
            self.refused(BadScheme, Run, FLAG, scheme)
        self.refused(BadWishes, Run, FLAG, FLAG_TWO, wishes=["a", "b"])
        for table in ([FLAG[0]], (list(FLAG[0]),), (([0, 1], [1, 1]),)):
            self.refused(BadTable, Roll, table, 2)
            self.refused(BadTable, Tower, table, FLAG, 2)
            self.refused(BadTable, Tower, FLAG, table, 2)

    def test_questions_change_nothing(self):
        run = begun_run()
        before = whole_view(run)
        for number in range(2):
            for name in (*QUESTIONS, "left", "twin"):
                getattr(run, name)()
            self.assertEqual(len(run), 5)
            self.assertTrue(run == run.twin())
            self.same(whole_view(run), before)
        for thing, fresh in zip(begun_rolls(), begun_rolls()):
            for number in range(3):
                questions(thing, 3)
            told = [thing.step(2) for step in range(2)]
            self.same(told, [fresh.step(2) for step in range(2)])
            self.same(questions(thing, 3), questions(fresh, 3))

    def test_refusals_change_nothing(self):
        run = begun_run()
        before = whole_view(run)
        for error, call, given in (
            (Ended, run.step, (0,)), (Still, run.step, (1,)), (NoHand, run.step, (3,)), (Ended, run.stop, (0,)),
            (Still, run.stop, (1,)), (NoHand, run.stop, (-1,)), (Undone, run.go, ([("step", 2), ("step", 1)],)),
            (Still, run.finish, ([2, 1],)), (Ended, run.deed, (("step", 0),)),
        ):
            self.refused(error, call, *given)
            self.same(whole_view(run), before)
        self.refused(TooWide, run.left, most=1)
        self.refused(BadMany, run.left, most=0)
        self.same(whole_view(run), before)
        for thing in begun_rolls():
            before = questions(thing, 3)
            for error, call, given in (
                (NoHand, thing.ask, (3, 0)), (Busy, thing.ask, (1, 0)), (NoOperation, thing.ask, (0, 3)),
                (NoHand, thing.step, (3,)), (Idle, thing.step, (0,)), (NoHand, thing.stand, (-1,)),
            ):
                self.refused(error, call, *given)
                self.same(questions(thing, 3), before)

    def test_things_of_one_table_do_not_mix(self):
        one, other = begun_run(), begun_run()
        before = whole_view(other)
        one.finish([2])
        self.same(whole_view(other), before)
        for one, other in zip(begun_rolls(), begun_rolls()):
            before = questions(other, 3)
            one.step(1)
            self.same(questions(other, 3), before)


class Refusals(Checks):
    def test_true_and_false_are_no_numbers(self):
        self.refused_at(0, BadTable, level, (((False, True), (True, True)),))
        self.refused(BadChoice, teams.marks, STICKY, (False, (False,), (True,)))
        self.refused(BadChoice, paper_holds, STICKY, 2, ("tells", (0, (False,), (True,))))
        self.assertIs(teams.clash_holds(SLOT, (0, (0,), (0,)), (0, (0,), (1, 0))), True)
        self.assertIs(teams.clash_holds(SLOT, (0, (0,), (0,)), (0, (False,), (1, 0))), False)
        self.refused(BadChoice, again.keeps, STICKY, (0, (False,), (True,)))
        end = ("end",)
        wrong_rows = (
            ("post", True), ("take", False, 0, 2), ("take", 0, False, 2), ("take", 0, 0, True), ("do", False, 0, ()),
            ("do", 0, False, ()), ("do", 0, 0, ((False, 2),)), ("do", 0, 0, ((0, True),)), ("look", False, ()),
            ("look", 0, ((True, 2),)), ("look", 0, ((1, True),)),
        )
        for row in wrong_rows:
            for call in (schemes.look_scheme, judge.wholes, judge.broken, again.broken_again):
                error = self.refused(BadScheme, call, SLOT, ((0,), ((end,), (row, end, end))))
                self.same((error.hand, error.row), (1, 0))
        error = self.refused(BadScheme, schemes.look_scheme, SLOT, ((0, False), ((end,), (end,))))
        self.same((error.hand, error.row), (-1, -1))

    def test_the_first_named_one_comes(self):
        bad = ()
        self.refused(BadTable, tables.done, bad, 9, 9)
        self.refused(NoStand, tables.done, FLAG, 9, 9)
        self.refused(NoStand, tables.gone, FLAG, 9, [9])
        self.refused(BadTable, teams.choices, bad, 9)
        self.refused(BadTable, teams.woven, bad, (), ())
        self.refused(BadChoice, teams.woven, FLAG, (), ())
        self.refused(BadChoice, teams.seen, FLAG, (), 9)
        self.refused(BadTable, telling, bad, 9)
        self.refused(BadTable, paper_of, bad, 9)
        self.refused(BadMany, paper_holds, FLAG, 9, ("tells", ()))
        self.refused(BadTable, judge.broken, bad, (), most=0)
        self.refused(BadScheme, judge.broken, FLAG, (), most=0)
        self.refused(BadMany, judge.broken, FLAG, FLAG_TWO, most=0)
        self.refused(TooWide, judge.broken, FLAG, FLAG_TWO, most=1)
        self.refused(BadTable, makers.made, bad, 9)
        self.refused(BadMany, makers.made, SLOT, 9)
        self.refused(NoScheme, makers.made, SLOT, 2)
        self.refused(BadTable, again.made_again, bad, 9)
        self.refused(BadMany, again.made_again, FLAG, 9)
        self.refused(NoScheme, again.made_again, FLAG, 2)
        self.refused(BadTable, again.keeps, bad, ())
        self.refused(BadTable, texts.choice_text, bad, ())
        self.refused(BadTable, texts.scheme_text, bad, ())

    def test_the_first_named_one_comes_of_runs_rolls_and_towers(self):
        bad = ()
        self.refused(BadTable, Run, bad, (), wishes=())
        self.refused(BadScheme, Run, FLAG, (), wishes=())
        self.refused(BadWishes, Run, FLAG, FLAG_TWO, wishes=())
        self.refused(BadTable, Roll, bad, 9, start=9)
        self.refused(NoStand, Roll, FLAG, 9, start=9)
        self.refused(BadMany, Roll, FLAG, 9, start=1)
        self.refused_at(0, BadTable, Tower, bad, (*FLAG, ()), 9)
        self.refused(NoStand, Tower, FLAG, bad, 9, start=9)
        self.refused_at(1, BadTable, Tower, FLAG, (*FLAG, ()), 9)
        self.refused(BadMany, Tower, FLAG, SLOT, 9, start=1)
        self.refused(NoScheme, Tower, FLAG, SLOT, 2, start=1)
        for thing in begun_rolls():
            self.refused(NoHand, thing.ask, 3, 9)
            self.refused(Busy, thing.ask, 1, 9)
        self.refused(BadMany, Run(FLAG, FLAG_TWO).left, most=0)
        self.refused(NothingLeft, Run(FLAG, FLAG_TWO).back)

    def test_a_refusal_changes_nothing(self):
        before = (level(FLAG), paper_of(FLAG, 3), teams.orders(2), teams.choices(FLAG, 2))
        for many in (1, 5):
            self.refused(BadMany, teams.orders, many)
            self.refused(BadMany, teams.choices, FLAG, many)
            self.refused(BadMany, paper_of, FLAG, many)
        self.same((level(FLAG), paper_of(FLAG, 3), teams.orders(2), teams.choices(FLAG, 2)), before)

    def test_a_refusal_changes_no_scheme_s_answers(self):
        def told():
            return (judge.broken(FLAG, FLAG_LATE), judge.agree_paper(FLAG, FLAG_TWO), makers.made(STICKY, 3),
                    again.broken_again(FLAG, FLAG_TWO), again.made_again(STICKY, 3), again.keep_level(FLAG))

        before = told()
        self.refused(TooWide, judge.broken, FLAG, FLAG_LATE, most=3)
        self.refused(TooWide, again.broken_again, FLAG, FLAG_TWO, most=3)
        self.refused(BadScheme, judge.agree_paper, FLAG, ((), FLAG_TWO[1]))
        self.refused(NoScheme, again.made_again, FLAG, 2)
        self.refused(NoScheme, makers.made, SLOT, 2)
        self.same(told(), before)

    def test_long_numbers(self):
        for number in (999999999, -999999999):
            self.refused(NoStand, tables.done, FLAG, number, 0)
            self.refused(BadMany, teams.orders, number)


if __name__ == "__main__":
    unittest.main()
