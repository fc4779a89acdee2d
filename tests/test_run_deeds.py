"""Runs: rows of deeds, finishing, taking back and doing again, twins, and which runs are alike ([16])."""

import unittest
from unittest import mock

from checks import Checks
from samples import FLAG, LEVELS, SLOT, STICKY, STONE, WHEEL
from scheme_samples import FLAG_LATE, FLAG_TWO, KNOWN, STUBBORN, Draw, drawn_schemes, idle_scheme
from slow_runs import Refused, SlowRun, questions, whole_view
from whofirst import errors
from whofirst.errors import Ended, NoHand, NothingLeft, Still, Undone
from whofirst.makers import made
from whofirst.runs import WISHES, Run

MADE = [(table, made(table, many)) for table, due, mark in LEVELS for many in range(2, due + 1)]
SCHEMES = [(table, scheme) for table, scheme, due in KNOWN] + drawn_schemes(60) + MADE


def steps(*hands):
    return [("step", hand) for hand in hands]


def stepped_run(*hands):
    run = Run(FLAG, FLAG_TWO)
    for hand in hands:
        run.step(hand)
    return run


class Drawn(Checks):
    """All deeds and questions by turns, held against the slow machine."""

    def test_as_gone_slowly(self):
        draw = Draw(81)
        met = {}
        for table, scheme in SCHEMES * 4:
            run, slow_run = Run(table, scheme), SlowRun(table, scheme)
            for number in range(25):
                name, given = self.drawn_call(draw, len(scheme[1]))
                word = self.both(run, slow_run, name, given)
                met[name, word] = met.get((name, word), 0) + 1
                self.same(questions(run), slow_run.questions())
            self.same(whole_view(run), whole_view_of_slow(slow_run))
        self.met_all(met)

    def drawn_call(self, draw, many):
        name = draw.one_of(("deed", "deed", "deed", "go", "go", "finish", "back", "back", "again", "again"))
        if name == "deed":
            return name, (self.drawn_deed(draw, many),)
        if name == "go":
            return name, ([self.drawn_deed(draw, many) for number in range(draw.below(4))],)
        if name == "finish":
            return name, ([self.drawn_deed(draw, many)[1] for number in range(draw.below(3))],)
        return name, ()

    def drawn_deed(self, draw, many):
        word = "stop" if draw.below(14) == 0 else "step"
        return word, draw.below(many + 2) - 1 if draw.below(12) == 0 else draw.below(many)

    def both(self, run, slow_run, name, given):
        """Both do the same; the word of the refusal, or None."""
        try:
            due = getattr(slow_run, name)(*given)
        except Refused as refused:
            error = self.refused(getattr(errors, refused.word), getattr(run, name), *given)
            if refused.word == "Undone":
                self.same(error.at, refused.at)
                self.same(error.__cause__.word, refused.cause)
            return refused.word
        self.same(getattr(run, name)(*given), due)
        return None

    def met_all(self, met):
        due = [(name, word) for name in ("deed", "finish") for word in (None, "NoHand", "Ended", "Still")]
        due += [("go", None), ("go", "Undone"), ("back", None), ("back", "NothingLeft")]
        for name, word in due + [("again", None), ("again", "NothingLeft")]:
            self.assertGreater(met.get((name, word), 0), 10, (name, word))


def whole_view_of_slow(slow_run):
    found = [slow_run.questions()]
    for name in ("again", "back"):
        other = slow_run.twin()
        while True:
            try:
                found.append((name, getattr(other, name)(), other.questions()))
            except Refused:
                break
    return found


class Refusals(Checks):
    def test_no_hand(self):
        for table, scheme in ((FLAG, FLAG_TWO), (STONE, idle_scheme(2, 2, 2)), (STONE, idle_scheme(2, 2, 2, 2))):
            run = Run(table, scheme)
            before = whole_view(run)
            for hand in (-999999999, -1, len(scheme[1]), 999999999):
                self.refused(NoHand, run.step, hand)
                self.refused(NoHand, run.stop, hand)
                self.refused(NoHand, run.deed, ("step", hand))
                self.refused(NoHand, run.deed, ("stop", hand))
                self.refused(NoHand, run.finish, [hand])
            self.same(whole_view(run), before)

    def test_ended(self):
        run = stepped_run(0, 0)
        before = whole_view(run)
        for call, given in ((run.step, 0), (run.stop, 0), (run.deed, ("step", 0)), (run.deed, ("stop", 0))):
            self.refused(Ended, call, given)
        self.refused(Ended, run.finish, [0])
        self.same(whole_view(run), before)

    def test_still(self):
        run = stepped_run(0)
        run.stop(0)
        before = whole_view(run)
        for call, given in ((run.step, 0), (run.stop, 0), (run.deed, ("step", 0)), (run.deed, ("stop", 0))):
            self.refused(Still, call, given)
        self.refused(Still, run.finish, [0])
        self.same(whole_view(run), before)

    def test_one_that_is_at_an_end_row_at_first(self):
        run = Run(SLOT, STUBBORN)
        for hand in (0, 1):
            self.refused(Ended, run.step, hand)
            self.refused(Ended, run.stop, hand)
        self.refused(NoHand, run.step, 2)

    def test_a_refusal_keeps_what_can_be_done_again(self):
        run = stepped_run(0, 0, 1)
        run.back()
        before = whole_view(run)
        self.refused(Ended, run.step, 0)
        self.refused(NoHand, run.stop, 7)
        self.refused(Ended, run.finish, [1, 0])
        self.refused(Undone, run.go, steps(1, 1, 0))
        self.same(whole_view(run), before)
        self.same(run.again(), ("step", 1))


class Go(Checks):
    def test_what_each_tells(self):
        run = Run(FLAG, FLAG_TWO)
        told = run.go([("step", 1), ("stop", 0), ("step", 1)])
        self.same(told, [("post", 0), None, ("do", 0, 0, ((0, 3),))])
        self.same(run.log(), [("step", 1), ("stop", 0), ("step", 1)])
        self.same((run.ended(), run.stopped(), len(run)), ([(1, "b")], [0], 3))

    def test_a_refused_one_at_each_place(self):
        refused = ((("step", 4), NoHand), (("step", -1), NoHand), (("stop", 9), NoHand), (("step", 0), Ended))
        refused += ((("stop", 0), Ended), (("step", 1), Still), (("stop", 1), Still))
        code = FLAG_TWO[1][0]
        run = Run(WHEEL, ((0,), (code, code, code, code)))
        run.finish([0])
        run.stop(1)
        run.go(steps(2, 2))
        run.back()
        right = [("step", 2), ("step", 3), ("step", 2), ("stop", 3)]
        before = whole_view(run)
        for wrong, error in refused:
            for at in range(len(right) + 1):
                row = right[:at] + [wrong] + right[at:]
                undone = self.refused(Undone, run.go, row)
                self.same(undone.at, at)
                self.assertIs(type(undone.__cause__), error)
                self.same(undone.__cause__.word, error.__name__)
                self.same(whole_view(run), before)
        self.same(run.go(right)[-1], None)
        self.same(len(run), 8)

    def test_refused_by_what_stands_ahead_of_it_in_the_row(self):
        run = Run(FLAG, FLAG_TWO)
        before = whole_view(run)
        undone = self.refused(Undone, run.go, steps(0, 0, 0))
        self.assertIs(type(undone.__cause__), Ended)
        self.same(undone.at, 2)
        undone = self.refused(Undone, run.go, [("step", 0), ("stop", 0), ("step", 1), ("step", 0), ("step", 7)])
        self.assertIs(type(undone.__cause__), Still)
        self.same(undone.at, 3)
        undone = self.refused(Undone, run.go, steps(0) + [("step", 2), ("step", 0)])
        self.assertIs(type(undone.__cause__), NoHand)
        self.same((undone.at, whole_view(run)), (1, before))

    def test_each_is_a_deed_of_its_own(self):
        run = Run(FLAG, FLAG_TWO)
        run.go(steps(0, 1, 1))
        self.same(run.back(), ("step", 1))
        self.same(run.log(), steps(0, 1))
        self.same((run.back(), run.back()), (("step", 1), ("step", 0)))
        self.refused(NothingLeft, run.back)
        self.same((run.again(), run.again(), run.again()), (("step", 0), ("step", 1), ("step", 1)))
        self.refused(NothingLeft, run.again)

    def test_behind_it_nothing_is_done_again(self):
        run = stepped_run(0, 1)
        run.back()
        run.go(steps(0))
        self.refused(NothingLeft, run.again)
        self.same(run.log(), steps(0, 0))

    def test_of_no_deeds(self):
        run = stepped_run(0, 1, 1)
        run.back()
        before = whole_view(run)
        self.same(run.go([]), [])
        self.same(whole_view(run), before)
        self.same(run.again(), ("step", 1))

    def test_ahead_of_a_go_that_is_undone(self):
        run = stepped_run(0, 1, 1)
        run.back()
        run.back()
        self.refused(Undone, run.go, steps(0, 0))
        self.same((run.again(), run.again()), (("step", 1), ("step", 1)))
        self.refused(NothingLeft, run.again)
        self.refused(Undone, run.go, steps(0, 1))
        self.same(run.back(), ("step", 1))
        self.same(run.log(), steps(0, 1))

    def test_three_hundred_deeds(self):
        run = Run(STONE, idle_scheme(60, 60, 60, 60))
        self.same(len(run.go(steps(*[0, 1, 2, 3] * 59))), 236)
        self.same(len(run.ended()), 4)
        fresh = Run(STONE, idle_scheme(60, 60, 60, 60))
        self.same(self.refused(Undone, fresh.go, steps(*[0, 1, 2, 3] * 75)).at, 236)
        self.same(len(fresh), 0)

    def test_busy_within_it_only(self):
        run = Run(FLAG, FLAG_TWO)
        for row in (steps(0, 1), steps(0, 0)):
            seen = []

            class Watched(list):
                def __iter__(self):
                    seen.append(run.busy())
                    return list.__iter__(self)

            self.assertIs(run.busy(), False)
            try:
                run.go(Watched(row))
            except Undone:
                pass
            self.assertEqual(set(seen), {True})
            self.assertIs(run.busy(), False)
            self.assertIs(run.twin().busy(), False)


class Finish(Checks):
    def test_how_many_steps(self):
        run = Run(FLAG, FLAG_TWO)
        self.same(run.finish([1]), 2)
        self.same((run.ended(), run.log()), ([(1, "b")], steps(1, 1)))
        self.same(run.finish([0]), 3)
        self.same((run.ended(), run.log()), ([(0, "b"), (1, "b")], steps(1, 1, 0, 0, 0)))

    def test_one_behind_the_other(self):
        for hands in ([0, 1], [1, 0]):
            run = Run(FLAG, FLAG_TWO)
            self.same(run.finish(hands), 5)
            self.same(run.log(), steps(hands[0], hands[0], hands[1], hands[1], hands[1]))
        run = Run(STONE, idle_scheme(3, 2, 4))
        self.same(run.finish([2, 0, 1]), 6)
        self.same(run.log(), steps(2, 2, 2, 0, 0, 1))

    def test_one_that_stands_twice(self):
        for hands in ([0, 0], [0, 0, 0]):
            run = Run(FLAG, FLAG_TWO)
            self.same(run.finish(hands), 2)
            self.same(run.log(), steps(0, 0))
        run = Run(STONE, idle_scheme(3, 2, 4))
        self.same(run.finish([1, 2, 1, 2, 2]), 4)
        self.same(run.log(), steps(1, 2, 2, 2))
        run = Run(STONE, idle_scheme(60, 60))
        self.same(run.finish([0, 1] * 150), 118)

    def test_of_no_steps(self):
        run = stepped_run(0, 1, 1)
        run.back()
        before = whole_view(run)
        self.same(run.finish([]), 0)
        self.same(whole_view(run), before)
        self.same(run.again(), ("step", 1))

    def test_each_step_is_a_deed(self):
        run = stepped_run(1)
        self.same(run.finish([0, 1]), 4)
        self.same([run.back() for deed in range(5)], steps(1, 1, 0, 0, 1))
        self.refused(NothingLeft, run.back)
        self.same([run.again() for deed in range(5)], steps(1, 0, 0, 1, 1))
        self.refused(NothingLeft, run.again)

    def test_behind_it_nothing_is_done_again(self):
        run = stepped_run(0, 1)
        run.back()
        run.finish([0])
        self.refused(NothingLeft, run.again)

    def test_refused_ahead_of_the_first_step(self):
        run = Run(STONE, idle_scheme(3, 2, 4, 2))
        run.finish([1])
        run.stop(3)
        run.step(0)
        run.back()
        before = whole_view(run)
        cases = (
            ([1], Ended), ([0, 1], Ended), ([0, 2, 1], Ended), ([3], Still), ([2, 3], Still), ([4], NoHand),
            ([0, -1], NoHand), ([0, 4, 1, 3], NoHand), ([0, 1, 4, 3], Ended), ([0, 3, 1, 4], Still),
            ([0, 0, 3], Still), ([1, 1], Ended), ([2, 2, 999999999], NoHand),
        )
        for hands, error in cases:
            self.refused(error, run.finish, hands)
            self.same(whole_view(run), before)
        self.same(run.finish([2, 0]), 5)


class BackAndAgain(Checks):
    def test_nothing_left_at_first(self):
        run = Run(FLAG, FLAG_TWO)
        before = whole_view(run)
        self.refused(NothingLeft, run.back)
        self.refused(NothingLeft, run.again)
        self.same(whole_view(run), before)

    def test_all_the_way(self):
        draw = Draw(91)
        for table, scheme in SCHEMES:
            run = Run(table, scheme)
            views = [questions(run)]
            for number in range(14):
                hand = draw.below(len(scheme[1]))
                if hand not in dict(run.ended()) and hand not in run.stopped():
                    run.deed((draw.one_of(("step", "step", "step", "step", "stop")), hand))
                    views.append(questions(run))
            deeds = run.log()
            for at in reversed(range(len(deeds))):
                self.same(run.back(), deeds[at])
                self.same(questions(run), views[at])
            self.refused(NothingLeft, run.back)
            for at in range(len(deeds)):
                self.same(run.again(), deeds[at])
                self.same(questions(run), views[at + 1])
            self.refused(NothingLeft, run.again)

    def test_a_stop(self):
        run = stepped_run(0)
        run.stop(0)
        self.same(run.back(), ("stop", 0))
        self.same(run.stopped(), [])
        self.same(run.again(), ("stop", 0))
        self.refused(Still, run.step, 0)
        run.back()
        self.same(run.step(0)[0], "do")
        self.refused(NothingLeft, run.again)

    def test_until_another_deed_is_done(self):
        for deed in (("step", 0), ("step", 1), ("stop", 0)):
            run = stepped_run(0, 1, 1)
            run.back()
            run.back()
            run.again()
            run.deed(deed)
            self.refused(NothingLeft, run.again)
            self.same(run.log(), steps(0, 1) + [deed])
            self.same(run.back(), deed)
            self.same(run.again(), deed)

    def test_what_is_done_again_leaves_the_rest(self):
        run = stepped_run(0, 1, 0)
        run.back()
        run.back()
        run.back()
        self.same((run.again(), run.back(), run.again()), (("step", 0),) * 3)
        self.same((run.again(), run.again()), (("step", 1), ("step", 0)))


class Twins(Checks):
    def test_stands_as_the_other_does(self):
        draw = Draw(101)
        for table, scheme in SCHEMES:
            run = Run(table, scheme, wishes=("one", "two", "three", "four", "five"))
            for number in range(10):
                hand = draw.below(len(scheme[1]))
                if hand not in dict(run.ended()):
                    run.step(hand)
            for number in range(min(3, len(run))):
                run.back()
            other = run.twin()
            self.assertIsInstance(other, Run)
            self.assertIsNot(other, run)
            self.same(whole_view(other), whole_view(run))
            self.assertTrue(other == run)

    def test_each_goes_its_own_way(self):
        run = stepped_run(0, 1, 1)
        run.back()
        other = run.twin()
        before = whole_view(run)
        other.again()
        other.finish([0])
        other.back()
        self.same(whole_view(run), before)
        ahead = whole_view(other)
        run.stop(0)
        run.back()
        run.back()
        run.go(steps(1, 0))
        self.same(whole_view(other), ahead)
        self.same(run.log(), steps(0, 1, 0))
        self.same(other.log(), steps(0, 1, 1, 0))

    def test_what_can_be_taken_back_and_done_again(self):
        run = stepped_run(0, 1, 1)
        run.back()
        other = run.twin()
        self.same((other.back(), other.back()), (("step", 1), ("step", 0)))
        self.refused(NothingLeft, other.back)
        self.same([other.again() for deed in range(3)], steps(0, 1, 1))
        self.refused(NothingLeft, other.again)
        self.same((run.again(), run.log()), (("step", 1), steps(0, 1, 1)))

    def test_a_twin_s_twin(self):
        run = stepped_run(0)
        twins = [run, run.twin(), run.twin().twin()]
        for hand, one in zip((0, 1, 0), twins):
            one.step(hand)
        self.same([one.log() for one in twins], [steps(0, 0), steps(0, 1), steps(0, 0)])


class Alike(Checks):
    def alike(self, one, other, due):
        for told in (one == other, other == one, not one != other):
            self.assertIs(told, due)

    def test_the_same(self):
        self.alike(Run(FLAG, FLAG_TWO), Run(FLAG, FLAG_TWO), True)
        self.alike(Run(FLAG, FLAG_TWO), Run(FLAG, FLAG_TWO, wishes=WISHES), True)
        self.alike(stepped_run(0, 1), stepped_run(0, 1), True)
        run = stepped_run(0)
        self.alike(run, run, True)

    def test_what_can_be_done_again_does_not_count(self):
        run = stepped_run(0, 1)
        run.back()
        self.alike(run, stepped_run(0), True)
        run.back()
        self.alike(run, Run(FLAG, FLAG_TWO), True)

    def test_logs(self):
        self.alike(stepped_run(0), stepped_run(1), False)
        self.alike(stepped_run(0), stepped_run(), False)
        # All but the order of the deeds is alike.
        self.alike(stepped_run(0, 1), stepped_run(1, 0), False)
        one, other = stepped_run(), stepped_run()
        one.stop(0)
        self.alike(one, other, False)
        other.step(0)
        self.alike(one, other, False)

    def test_wishes(self):
        run = Run(FLAG, FLAG_TWO)
        for wishes in (("a", "b"), ("a", "b", "c"), ("a", "b", "c", "e"), ("b", "b", "c", "d"), WISHES + ("e",)):
            self.alike(run, Run(FLAG, FLAG_TWO, wishes=wishes), False)
            self.alike(Run(FLAG, FLAG_TWO, wishes=wishes), Run(FLAG, FLAG_TWO, wishes=wishes), True)

    def test_tables_and_schemes(self):
        self.alike(Run(FLAG, FLAG_TWO), Run(WHEEL, FLAG_TWO), False)
        self.alike(Run(FLAG, FLAG_TWO), Run(FLAG, FLAG_LATE), False)
        self.alike(Run(STICKY, STUBBORN), Run(SLOT, STUBBORN), False)
        self.alike(Run(STONE, idle_scheme(2, 3)), Run(STONE, idle_scheme(3, 2)), False)
        self.alike(Run(FLAG, ((0,), FLAG_TWO[1])), Run(FLAG, ((1,), FLAG_TWO[1])), False)
        self.alike(Run(FLAG, ((0,), FLAG_TWO[1])), Run(FLAG, ((0, 0), FLAG_TWO[1])), False)

    def test_other_things(self):
        run = stepped_run(0)
        for other in (None, 0, 1, "run", [], steps(0), (FLAG, FLAG_TWO, WISHES), {}, object(), Run):
            self.alike(run, other, False)
        self.assertIs(run == mock.ANY, False)
        like = SlowRun(FLAG, FLAG_TWO)
        like.wishes, like.deeds = WISHES, steps(0)
        self.assertIs(run == like, False)


if __name__ == "__main__":
    unittest.main()
