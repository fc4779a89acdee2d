"""Runs: their questions, wishes, refusals, what is left, and what made schemes come to ([16], [1] and [12])."""

import unittest

from checks import Checks
from samples import FLAG, LEVELS, PAIRED, SLOT, STICKY, STONE, WHEEL, bad_tables
from scheme_samples import END, FLAG_LATE, FLAG_TWO, KNOWN, ONLY_END, STICKY_THREE, STUBBORN, Draw, bad_schemes
from scheme_samples import drawn_schemes, idle_scheme, odd_schemes
from slow_runs import SlowRun, questions, whole_view
from whofirst.errors import BadMany, BadScheme, BadTable, BadWishes, Ended, NoHand, Still, TooWide
from whofirst.makers import made
from whofirst.runs import WISHES, Run

MANY_WISHES = ("x", "letters", "zz", "abcdefgh", "more", "than", "hands")
ALIKE_WISHES = ("same", "same", "b", "same")


def made_schemes():
    """(table, scheme), made ones for two, three and four hands."""
    found = [(table, made(table, many)) for table, due, mark in LEVELS for many in range(2, due + 1)]
    return found + [(PAIRED[0], made(PAIRED[0], 4))]


SCHEMES = [(table, scheme) for table, scheme, due in KNOWN] + drawn_schemes(60) + made_schemes()


def drawn_deed(draw, many):
    """A deed of some hand, perhaps of one that isn't there; few stop."""
    return ("stop" if draw.below(12) == 0 else "step", draw.below(many + 1) if draw.below(9) == 0 else draw.below(many))


class Samples(unittest.TestCase):
    def test_there_are_drawn_and_made_ones_of_each_count(self):
        for schemes in (drawn_schemes(60), made_schemes()):
            self.assertEqual({len(scheme[1]) for table, scheme in schemes}, {2, 3, 4})


class Questions(Checks):
    def test_at_first(self):
        run = Run(FLAG, FLAG_TWO)
        self.same(run.places(), [0, 0])
        self.same(run.stands(), [0])
        self.same(run.words(), ["a", "b"])
        self.same(run.slots(), [[None, None, None], [None, None, None]])
        self.same((run.ended(), run.stopped(), run.log(), len(run)), ([], [], [], 0))
        self.same(run.left(), ["a", "b"])
        self.assertIs(run.busy(), False)

    def test_step_by_step(self):
        run = Run(FLAG, FLAG_TWO, wishes=("left", "right"))
        self.same(run.step(0), ("post", 0))
        self.same(run.slots(), [["left", None, None], [None, None, None]])
        self.same(run.step(1), ("post", 0))
        self.same(run.step(1), ("do", 0, 0, ((0, 3),)))
        self.same((run.places(), run.stands(), run.ended()), ([1, 3], [1], [(1, "right")]))
        self.same(run.left(), ["right"])
        self.same(run.step(0), ("do", 0, 0, ((0, 3),)))
        self.same((run.places(), run.words()), ([2, 3], ["left", "right"]))
        self.same(run.step(0), ("take", 1, 0, 3))
        self.same((run.places(), run.words()), ([3, 3], ["right", "right"]))
        self.same(run.ended(), [(0, "right"), (1, "right")])
        self.same(run.log(), [("step", 0), ("step", 1), ("step", 1), ("step", 0), ("step", 0)])
        self.same(len(run), 5)

    def test_a_hand_that_stopped(self):
        run = Run(FLAG, FLAG_TWO)
        self.assertIsNone(run.stop(1))
        self.same((run.stopped(), run.log(), run.places()), ([1], [("stop", 1)], [0, 0]))
        self.same(run.left(), ["a"])
        self.assertIsNone(run.stop(0))
        self.same((run.stopped(), run.left(), run.ended()), ([0, 1], [], []))

    def test_behind_each_deed_as_gone_slowly(self):
        draw = Draw(51)
        for table, scheme in SCHEMES:
            for wishes in (WISHES, MANY_WISHES, ALIKE_WISHES):
                run = Run(table, scheme, wishes=wishes)
                slow_run = SlowRun(table, scheme, wishes)
                self.same(questions(run), slow_run.questions())
                for number in range(25):
                    self.do_both(run, slow_run, drawn_deed(draw, len(scheme[1])))

    def do_both(self, run, slow_run, deed):
        word, hand = deed
        due = slow_run.refusal(hand)
        method = run.step if word == "step" else run.stop
        if due is None:
            self.same(method(hand), slow_run.deed(deed))
        else:
            self.refused({"NoHand": NoHand, "Ended": Ended, "Still": Still}[due], method, hand)
        self.same(questions(run), slow_run.questions())

    def test_a_deed_is_what_its_method_is(self):
        for table, scheme in SCHEMES:
            one, other = Run(table, scheme), Run(table, scheme)
            for hand in [0, 1, 0, 1, 1, 0] * 3:
                if hand not in dict(one.ended()):
                    self.same(one.deed(("step", hand)), other.step(hand))
            for hand in range(len(scheme[1])):
                if hand not in dict(one.ended()):
                    self.assertIsNone(one.deed(("stop", hand)))
                    self.assertIsNone(other.stop(hand))
            self.same(whole_view(one), whole_view(other))


class Wishes(Checks):
    def test_left_out(self):
        self.same(WISHES, ("a", "b", "c", "d"))
        for many in (2, 3, 4):
            run = Run(STONE, ((), (ONLY_END,) * many))
            self.same(run.words(), list("abcd"[:many]))
            self.same(run.ended(), list(enumerate("abcd"[:many])))
            self.assertEqual(run, Run(STONE, ((), (ONLY_END,) * many), wishes=WISHES))

    def test_right_ones(self):
        for wishes in (("a", "z"), ("abcdefgh", "stuvwxyz"), ("q",) * 300, ALIKE_WISHES, MANY_WISHES):
            run = Run(FLAG, FLAG_TWO, wishes=wishes)
            self.same(run.words(), list(wishes[:2]))

    def test_alike_ones(self):
        run = Run(STONE, ((), (ONLY_END,) * 4), wishes=ALIKE_WISHES)
        self.same(run.ended(), [(0, "same"), (1, "same"), (2, "b"), (3, "same")])
        self.same(run.left(), ["same", "same", "b", "same"])
        run = Run(FLAG, FLAG_TWO, wishes=("w", "w"))
        self.same(run.left(), ["w", "w"])
        run.finish([1])
        self.same(run.left(), ["w"])

    def test_wrong_ones(self):
        wrong = ["", "ninechars", "abcdefghi", "A", "aB", "a b", " ", " a", "a ", "a1", "0", "a-", "a\n", "~"]
        wrong += [None, 1, b"a", ("a",), ["a"], True]
        for wish in wrong:
            for wishes in ((wish, "b"), ("a", wish), ("a", "b", wish), ("a", "b", "c", "d", "e", wish)):
                self.refused(BadWishes, Run, FLAG, FLAG_TWO, wishes=wishes)

    def test_too_few(self):
        for many in (2, 3, 4):
            scheme = ((), (ONLY_END,) * many)
            for few in range(many):
                self.refused(BadWishes, Run, STONE, scheme, wishes=("a",) * few)
            self.same(Run(STONE, scheme, wishes=("a",) * many).words(), ["a"] * many)

    def test_of_another_kind(self):
        for wishes in (["a", "b"], "ab", {"a": 1, "b": 2}, None, 2):
            self.refused(BadWishes, Run, FLAG, FLAG_TWO, wishes=wishes)


class Made(Checks):
    def test_refused_in_their_order(self):
        for table, at in bad_tables():
            self.refused_at(at, BadTable, Run, table, FLAG_TWO)
            self.refused_at(at, BadTable, Run, table, ())
            with self.assertRaises(BadTable):
                Run(table, (), wishes=())
        for scheme, hand, row in bad_schemes() + [(scheme, -1, -1) for scheme in odd_schemes()]:
            for wishes in (WISHES, ()):
                error = self.refused(BadScheme, Run, SLOT, scheme, wishes=wishes)
                self.same((error.hand, error.row), (hand, row))

    def test_true_and_false(self):
        self.refused(BadTable, Run, (((False, True), (True, True)),), FLAG_TWO)
        self.refused(BadScheme, Run, FLAG, ((False,), FLAG_TWO[1]))
        self.refused(BadScheme, Run, FLAG, ((), ((("post", True), END), ONLY_END)))

    def test_wishes_are_handed_in_by_name_alone(self):
        with self.assertRaises(TypeError):
            Run(FLAG, FLAG_TWO, WISHES)


class Left(Checks):
    def test_as_gone_through_slowly(self):
        draw = Draw(61)
        for table, scheme in [(table, scheme) for table, scheme, due in KNOWN] + drawn_schemes(60):
            for wishes in (WISHES, ALIKE_WISHES):
                run, slow_run = Run(table, scheme, wishes=wishes), SlowRun(table, scheme, wishes)
                for number in range(8):
                    self.as_slowly(run, slow_run)
                    deed = ("stop" if draw.below(4) == 0 else "step", draw.below(len(scheme[1])))
                    if slow_run.refusal(deed[1]) is None:
                        run.deed(deed)
                        slow_run.deed(deed)

    def as_slowly(self, run, slow_run):
        due = slow_run.left()
        count = len(slow_run.worlds())
        before = questions(run)
        self.same(run.left(), due)
        for most in (count, 5000):
            self.same(run.left(most=most), due)
        for most in {1, count - 1} - {0, count}:
            self.same(self.refused(TooWide, run.left, most=most).most, most)
        for most in (-999999999, -1, 0, 5001, 999999999, True):
            self.refused(BadMany, run.left, most=most)
        self.same(questions(run), before)

    def test_made_ones_behind_some_steps(self):
        for table, scheme in made_schemes():
            if len(scheme[1]) == 3:
                run, slow_run = Run(table, scheme), SlowRun(table, scheme)
                for deed in (("step", 1), ("step", 1), ("stop", 0), ("step", 2)):
                    run.deed(deed)
                    slow_run.deed(deed)
                    self.same(run.left(), slow_run.left())

    def test_five_thousand(self):
        run = Run(STONE, idle_scheme(50, 10, 10))
        self.same(run.left(), ["a", "b", "c"])
        self.same(self.refused(TooWide, run.left, most=4999).most, 4999)
        wide = Run(STONE, idle_scheme(60, 60, 2))
        self.same(self.refused(TooWide, wide.left).most, 5000)
        self.same(self.refused(TooWide, wide.left, most=1).most, 1)
        self.refused(BadMany, wide.left, most=5001)
        wide.stop(1)
        self.same(wide.left(most=120), ["a", "c"])
        self.same(self.refused(TooWide, wide.left, most=119).most, 119)
        wide.back()
        self.same(self.refused(TooWide, wide.left).most, 5000)

    def test_all_have_stopped_or_ended(self):
        run = Run(STONE, idle_scheme(2, 3, 4))
        run.finish([1])
        run.stop(2)
        run.stop(0)
        self.same(run.left(most=1), ["b"])

    def test_by_name_alone(self):
        with self.assertRaises(TypeError):
            Run(FLAG, FLAG_TWO).left(5000)


class Agreeing(Checks):
    def test_all_that_end_hold_one_wish_of_one_that_began(self):
        draw = Draw(71)
        for table, scheme in made_schemes():
            for number in range(12):
                self.one_wish(Run(table, scheme), len(scheme[1]), draw)

    def one_wish(self, run, many, draw):
        while len(run.ended()) + len(run.stopped()) < many:
            going = [hand for hand in range(many) if hand not in dict(run.ended()) and hand not in run.stopped()]
            hand = draw.one_of(going)
            for step in range(1 + draw.below(5)):
                if hand not in dict(run.ended()):
                    run.step(hand)
            if draw.below(15) == 0 and hand not in dict(run.ended()):
                run.stop(hand)
            began = {WISHES[hand] for word, hand in run.log() if word == "step"}
            wishes = {wish for hand, wish in run.ended()}
            self.assertLess(len(wishes), 2)
            self.assertLessEqual(wishes, began)

    def test_whoever_stops_the_others_end(self):
        for table, scheme in made_schemes():
            many = len(scheme[1])
            for hand in range(many):
                run = Run(table, scheme)
                for other in range(many):
                    if other != hand:
                        run.step(other)
                        run.stop(other)
                run.finish([hand])
                self.same(run.ended(), [(hand, run.words()[hand])])

    def test_what_does_not_agree(self):
        run = Run(FLAG, FLAG_LATE)
        run.go([("step", hand) for hand in (0, 1, 1, 0, 1)])
        self.same(run.ended(), [(0, "a"), (1, "b")])
        self.same(Run(SLOT, STUBBORN).ended(), [(0, "a"), (1, "b")])
        run = Run(STICKY, STICKY_THREE)
        self.same(run.finish([1]) + run.finish([2]), 4)
        self.same(run.ended(), [(1, "b"), (2, "c")])
        self.same(Run(WHEEL, FLAG_TWO).finish([1, 0]), 5)


if __name__ == "__main__":
    unittest.main()
