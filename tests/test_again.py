"""Hands that come back ([14] and [15])."""

import unittest

import oracle
import slow
from checks import Checks
from samples import FLAG, KEEP_LEVELS, LEVELS, PAIRED, SLOT, STICKY, STONE, bad_choices, bad_tables, drawn_tables
from scheme_samples import END, FLAG_LATE, FLAG_TWO, KNOWN, ONLY_END, STUBBORN, Draw, bad_schemes, drawn_schemes
from scheme_samples import idle_scheme, with_drawn_row
from whofirst.again import again_holds, broken_again, keep_level, keeping, keeps, made_again
from whofirst.errors import BadChoice, BadMany, BadScheme, BadTable, NoScheme, TooWide
from whofirst.judge import broken
from whofirst.levels import mark_level
from whofirst.makers import made
from whofirst.schemes import look_scheme
from whofirst.teams import marks

WRONG_COUNTS = (-999999999, -1, 0, 1, 5, 6, 999999999)
TABLES = [table for table, mark, due in KEEP_LEVELS] + list(PAIRED) + drawn_tables(100)
# (table, count of hands) up to each table's keep level
MADE = [(table, many) for table in TABLES for many in range(2, keep_level(table) + 1)]


def small_schemes():
    """(table, scheme), few enough pairs to go through them slowly."""
    draw = Draw(17)
    found = [(table, scheme) for table, scheme, due in KNOWN] + drawn_schemes(90)
    found += [(table, made(table, 2)) for table, due, mark in LEVELS if due > 1]
    again = [(table, made_again(table, 2)) for table, mark, due in KEEP_LEVELS if due > 1]
    return found + again + [(table, with_drawn_row(draw, table, scheme)) for table, scheme in again * 4]


SCHEMES = small_schemes()


class Keeps(Checks):
    def test_known_choices(self):
        self.assertIs(keeps(STICKY, (0, (0,), (1,))), True)
        self.assertIs(keeps(STICKY, (0, (0, 0), (1, 1))), True)
        self.assertIs(keeps(STICKY, (0, (0,), (0,))), False)

    def test_what_marks_but_comes_back_to_the_start(self):
        # Hand 0 leads on to 1, from there hand 1 leads back to the start; hand 1 begun leads to 2, which stays.
        table = (((0, 1), (0, 1), (0, 2)), ((0, 2), (0, 0), (0, 2)))
        self.assertIs(marks(table, (0, (0,), (1,))), True)
        self.assertIs(keeps(table, (0, (0,), (1,))), False)

    def test_as_told_by_all_orders(self):
        kept = 0
        for table in [one for one, mark, due in KEEP_LEVELS] + drawn_tables(30, 2):
            for many in (2, 3):
                for choice in oracle.every_choice(table, many):
                    due = oracle.keeps(table, choice)
                    kept += due
                    self.assertIs(keeps(table, choice), due)
        self.assertGreater(kept, 30)

    def test_refuses(self):
        for choice in bad_choices():
            self.refused(BadChoice, keeps, SLOT, choice)
        for table, at in bad_tables():
            self.refused_at(at, BadTable, keeps, table, (0, (0,), (0,)))
            self.refused_at(at, BadTable, keeps, table, ())


class Keeping(Checks):
    def test_known_ones(self):
        self.same(keeping(STICKY, 2), (0, (0,), (1,)))
        self.same(keeping(STICKY, 4), (0, (0,), (1, 1, 1)))
        for many in (2, 3, 4):
            self.assertIsNone(keeping(FLAG, many))

    def test_the_first_of_all(self):
        for table in [one for one, mark, due in KEEP_LEVELS] + drawn_tables(40, 2):
            for many in (2, 3, 4):
                due = [choice for choice in oracle.choices(table, many) if oracle.keeps(table, choice)]
                self.same(keeping(table, many), due[0] if due else None)

    def test_refuses(self):
        for many in WRONG_COUNTS:
            self.refused(BadMany, keeping, SLOT, many)
            for table, at in bad_tables():
                self.refused_at(at, BadTable, keeping, table, many)


class KeepLevel(Checks):
    def test_known_levels(self):
        for table, mark, due in KEEP_LEVELS:
            self.same((mark_level(table), keep_level(table)), (mark, due))
        self.assertEqual({due for table, mark, due in KEEP_LEVELS}, {1, 2, 3, 4})

    def test_most(self):
        for table, mark, due in KEEP_LEVELS:
            for most in (1, 2, 3, 4):
                self.same(keep_level(table, most=most), min(due, most))

    def test_as_told_by_all_choices(self):
        tables = [table for table in drawn_tables(60, 2) if len(table[0]) <= 3]
        for table in tables + [one for one, mark, due in KEEP_LEVELS if len(one[0]) <= 3]:
            self.same(keep_level(table), oracle.greatest(table, oracle.keeps))

    def test_never_greater_than_the_mark_level(self):
        for table in TABLES:
            self.assertLessEqual(keep_level(table), mark_level(table))

    def test_refuses(self):
        for table, at in bad_tables():
            self.refused_at(at, BadTable, keep_level, table)
            with self.assertRaises(BadTable):
                keep_level(table, most=0)
        for most in (-999999999, -1, 0, 5, 6, 999999999, True):
            self.refused(BadMany, keep_level, SLOT, most=most)
        with self.assertRaises(TypeError):
            keep_level(SLOT, 2)


class MadeAgain(Checks):
    def test_there_are_enough_of_each_count(self):
        for many in (2, 3, 4):
            self.assertGreater(len([table for table, count in MADE if count == many]), 5)

    def test_a_scheme_with_one_thing_fewer_than_hands(self):
        for table, many in MADE:
            scheme = made_again(table, many)
            self.assertIsNone(look_scheme(table, scheme))
            starts, codes = scheme
            self.assertEqual((len(starts), len(codes)), (many - 1, many))
            self.same(made_again(table, many), scheme)

    def test_two_hands_agree_again(self):
        for table, many in MADE:
            if many == 2:
                scheme = made_again(table, many)
                self.assertIsNone(slow.shortest_again(table, scheme))
                self.assertIsNone(broken_again(table, scheme))
                self.assertIsNone(broken(table, scheme))

    def test_three_hands(self):
        self.assertIsNone(broken_again(STICKY, made_again(STICKY, 3)))
        for table, many in MADE:
            if many == 3:
                self.assertIsNone(broken(table, made_again(table, many)))

    def test_drawn_moves(self):
        draw = Draw(31)
        for table, many in MADE:
            scheme = made_again(table, many)
            for number in range(200 if table in PAIRED else 20):
                self.one_word(slow.World(table, scheme), draw)

    def test_pairs_of_hands(self):
        for table in PAIRED:
            start, ones, others = keeping(table, 4)
            self.assertEqual((len(ones), len(others)), (2, 2))

    def one_word(self, world, draw):
        """By drawn bursts of steps and comings back all hands that ever end hold one word of one that began."""
        began = set()
        words = set()
        for burst in range(40):
            hand = draw.below(len(world.codes))
            began.add(hand)
            if draw.below(3) == 0:
                world.back(hand)
            for step in range(1 + draw.below(6)):
                if not world.ended(hand):
                    world.step(hand)
                    words |= world.end_words()
        self.assertLess(len(words), 2)
        self.assertLessEqual(words, began)

    def test_more_hands_than_the_keep_level(self):
        for table in TABLES:
            due = keep_level(table)
            for many in range(due + 1, 5):
                self.same(self.refused(NoScheme, made_again, table, many).level, due)

    def test_refuses(self):
        for many in WRONG_COUNTS:
            for table in (SLOT, FLAG, STICKY):
                self.refused(BadMany, made_again, table, many)
        for table, at in bad_tables():
            for many in (0, 2, 5):
                self.refused_at(at, BadTable, made_again, table, many)


class BrokenAgain(Checks):
    def test_there_are_enough_of_each_kind(self):
        unlike = [slow.shortest_again(table, scheme) for table, scheme in SCHEMES]
        self.assertGreater(unlike.count(None), 8)
        self.assertGreater(len(unlike) - unlike.count(None), 80)
        self.assertGreater(max([moves for moves in unlike if moves is not None]), 6)

    def test_a_shortest_one_that_holds(self):
        for table, scheme in SCHEMES:
            moves = broken_again(table, scheme)
            due = slow.shortest_again(table, scheme)
            self.assertEqual(None if moves is None else len(moves), due)
            if moves is not None:
                self.assertIsInstance(moves, list)
                self.assertIs(slow.unlike_again(table, scheme, moves), True)
                self.assertIs(again_holds(table, scheme, moves), True)
                self.same(broken_again(table, scheme), moves)

    def test_what_agrees_may_not_agree_again(self):
        self.assertIsNone(broken(FLAG, FLAG_TWO))
        self.assertEqual(len(broken_again(FLAG, FLAG_TWO)), slow.shortest_again(FLAG, FLAG_TWO))

    def test_a_scheme_that_does_not_agree_does_not_agree_again(self):
        for table, scheme, due in KNOWN:
            if not due:
                self.assertLessEqual(len(broken_again(table, scheme)), len(broken(table, scheme)))

    def test_at_first_too(self):
        self.same(broken_again(STONE, STUBBORN), [])
        self.same(broken_again(STONE, ((), (ONLY_END, (("post", 0), END)))), [("step", 1)])

    def test_the_word_counts_though_the_hand_comes_back(self):
        # Hand 0 ends with its own word and tells nobody; hand 1 ends with its own.
        scheme = ((), ((("post", 0), END), (("take", 0, 0, 1), END)))
        self.assertIs(again_holds(STONE, scheme, [("step", 0), ("again", 0), ("step", 1)]), False)
        alone = ((), ((("take", 1, 0, 1), END), (("take", 0, 0, 1), END)))
        self.assertIs(again_holds(STONE, alone, [("step", 0), ("again", 0), ("step", 1)]), True)

    def test_slots_and_things_stay(self):
        # Hand 0 ends with its own word first, and then, as what it found stays, with another one.
        scheme = ((), ((("take", 1, 0, 1), END), (("post", 0), ("take", 0, 0, 2), ("take", 0, 1, 3), END)))
        self.assertIs(again_holds(STONE, scheme, [("step", 0), ("step", 1), ("again", 0), ("step", 0)]), True)
        self.assertIs(again_holds(STONE, scheme, [("step", 0), ("step", 1), ("again", 1), ("again", 0)]), False)

    def test_most(self):
        for table, scheme in SCHEMES:
            count = len(slow.all_pairs(table, scheme))
            due = broken_again(table, scheme)
            self.same(broken_again(table, scheme, most=count), due)
            self.same(broken_again(table, scheme, most=5000), due)
            for most in {1, count // 2, count - 1} - {0, count}:
                self.same(self.refused(TooWide, broken_again, table, scheme, most=most).most, most)

    def test_too_wide_comes_ahead_of_all_answers(self):
        wide = ((), (ONLY_END, *idle_scheme(60, 60, 60)[1]))
        self.same(self.refused(TooWide, broken_again, STONE, wide).most, 5000)
        self.same(self.refused(TooWide, broken_again, STONE, idle_scheme(3, 4), most=5).most, 5)

    def test_nothing_behind_unlike_words_is_gone_through(self):
        # At first already words are unlike, so that there is but one pair.
        wide = ((), (ONLY_END, ONLY_END, *idle_scheme(60, 60)[1]))
        self.same(broken_again(STONE, wide, most=1), [])

    def test_refuses(self):
        for table, at in bad_tables():
            self.refused_at(at, BadTable, broken_again, table, FLAG_TWO)
            self.refused_at(at, BadTable, broken_again, table, ((9,), ()))
        for scheme, hand, row in bad_schemes():
            error = self.refused(BadScheme, broken_again, SLOT, scheme)
            self.same((error.hand, error.row), (hand, row))
        for most in (-999999999, -1, 0, 5001, 999999999, True):
            self.refused(BadMany, broken_again, FLAG, FLAG_TWO, most=most)
            self.refused(BadMany, broken_again, STONE, idle_scheme(60, 60, 60), most=most)
            self.refused(BadScheme, broken_again, FLAG, ((2,), FLAG_TWO[1]), most=most)
            self.refused(BadTable, broken_again, (), FLAG_TWO, most=most)
        with self.assertRaises(TypeError):
            broken_again(FLAG, FLAG_TWO, 5000)


class AgainHolds(Checks):
    def test_as_gone_slowly(self):
        draw = Draw(41)
        held = 0
        for table, scheme in SCHEMES:
            for number in range(12):
                moves = self.drawn_moves(draw, len(scheme[1]), 1 + draw.below(14))
                due = slow.unlike_again(table, scheme, moves)
                held += due
                self.assertIs(again_holds(table, scheme, moves), due)
        self.assertGreater(held, 40)

    def drawn_moves(self, draw, many, length):
        return [(draw.one_of(("step", "step", "step", "again")), draw.below(many)) for move in range(length)]

    def test_cut_and_lengthened(self):
        for table, scheme in SCHEMES:
            moves = broken_again(table, scheme)
            if moves is None:
                continue
            for length in range(len(moves)):
                self.assertIs(again_holds(table, scheme, moves[:length]), False)
            many = len(scheme[1])
            for hand in (-999999999, -1, *range(many), many, 999999999):
                is_hand = 0 <= hand < many
                self.assertIs(again_holds(table, scheme, moves + [("again", hand)]), is_hand)
                for more in (("step", hand), ("again", hand)):
                    due = slow.unlike_again(table, scheme, moves + [more])
                    self.assertIs(again_holds(table, scheme, moves + [more]), due)
            for word in ("", "Step", "stop", "back", "end", "steps"):
                self.assertIs(again_holds(table, scheme, moves + [(word, 0)]), False)
                self.assertIs(again_holds(table, scheme, [(word, 0)] + moves), False)

    def test_a_hand_that_has_ended_may_come_back_and_step(self):
        scheme = ((), ((("post", 0), END), ONLY_END))
        self.assertIs(again_holds(STONE, scheme, [("step", 0)]), True)
        self.assertIs(again_holds(STONE, scheme, [("step", 0), ("step", 0)]), False)
        self.assertIs(again_holds(STONE, scheme, [("step", 0), ("again", 0), ("step", 0)]), True)
        self.assertIs(again_holds(STONE, scheme, [("step", 0), ("again", 1), ("step", 1)]), False)
        self.assertIs(again_holds(STONE, scheme, [("again", 1), ("again", 1), ("step", 0)]), True)
        self.assertIs(again_holds(STONE, STUBBORN, []), True)
        self.assertIs(again_holds(FLAG, FLAG_LATE, []), False)

    def test_refuses(self):
        for table, at in bad_tables():
            self.refused_at(at, BadTable, again_holds, table, FLAG_TWO, [])
            self.refused_at(at, BadTable, again_holds, table, (), [("step", 9)])
        for scheme, hand, row in bad_schemes():
            error = self.refused(BadScheme, again_holds, SLOT, scheme, [("step", 0)])
            self.same((error.hand, error.row), (hand, row))


if __name__ == "__main__":
    unittest.main()
