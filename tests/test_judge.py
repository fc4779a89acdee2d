"""Weavings, wholes, schemes that agree, and what is read off them ([11] and [13])."""

import unittest
from itertools import permutations

import oracle
import slow
from checks import Checks
from samples import FLAG, LEVELS, SLOT, STICKY, STONE, WHEEL, bad_tables
from scheme_samples import END, FLAG_LATE, FLAG_TWO, KNOWN, ONLY_END, STICKY_THREE, STUBBORN, Draw, bad_schemes
from scheme_samples import drawn_schemes, idle_scheme, renamed, with_drawn_row, with_row_ahead
from whofirst.errors import BadMany, BadScheme, BadTable, TooWide
from whofirst.judge import MOST_WHOLES, agree_holds, agree_paper, broken, can_come, last_open, read_off
from whofirst.judge import weaving_holds, wholes
from whofirst.levels import level
from whofirst.makers import made

FIRST_OF_TWO = ((0, 0), (0, 1), (0,), ((None, None, None), (None, None, None)))


def made_schemes():
    """(table, scheme), made ones that are small enough to go through slowly."""
    return [(table, made(table, many)) for table, due, mark in LEVELS for many in range(2, min(due, 3) + 1)]


def changed_schemes(count):
    """Made schemes with one row changed; some still agree."""
    draw = Draw(11)
    found = made_schemes()
    return [(table, with_drawn_row(draw, table, scheme)) for table, scheme in found for number in range(count)]


def alike_schemes():
    """Made schemes with hands called otherwise, or with a first row that changes nothing; all agree."""
    found = []
    for table, scheme in made_schemes():
        for names in permutations(range(len(scheme[1]))):
            found.append((table, renamed(scheme, names)))
        for row in (("post", 2), ("look", 0, ((0, 1), (3, 1))), ("take", 1, 2, 1)):
            found.append((table, with_row_ahead(scheme, len(scheme[1]) - 1, row)))
    return found


def all_schemes():
    known = [(table, scheme) for table, scheme, due in KNOWN]
    return known + made_schemes() + alike_schemes() + changed_schemes(6) + drawn_schemes(90)


SCHEMES = all_schemes()
AGREEING = [(table, scheme) for table, scheme in SCHEMES if slow.agrees(table, scheme)]
UNLIKE = [(table, scheme) for table, scheme in SCHEMES if not slow.agrees(table, scheme)]


def can_come_at_first(table, scheme, **named):
    return can_come(table, scheme, [], **named)


class Samples(unittest.TestCase):
    def test_there_are_enough_of_each_kind(self):
        for schemes, few in ((AGREEING, 60), (UNLIKE, 150)):
            self.assertGreater(len(schemes), few)
            self.assertEqual({len(scheme[1]) for table, scheme in schemes} | {4}, {2, 3, 4})
        self.assertEqual({level(table) for table, scheme in SCHEMES}, {1, 2, 3, 4})
        for table, scheme in made_schemes() + alike_schemes():
            self.assertIn((table, scheme), AGREEING)


class Wholes(Checks):
    def test_known_counts(self):
        self.same(wholes(SLOT, STUBBORN), 1)
        self.same(wholes(STONE, ((), (ONLY_END,) * 4)), 1)
        self.same(wholes(STONE, idle_scheme(2, 3)), 6)
        self.same(wholes(STONE, idle_scheme(2, 3, 4, 5)), 120)
        self.same(wholes(STONE, ((0,), ((("do", 0, 0, ()), END), ONLY_END))), 2)
        self.same(wholes(FLAG, ((0,), ((("do", 0, 0, ()), END), (("do", 0, 0, ()), END)))), 4)
        self.same(wholes(FLAG, ((0,), ((("do", 0, 0, ((1, 2),)), END, END), (("do", 0, 0, ()), END)))), 5)

    def test_as_gone_through_slowly(self):
        for table, scheme in SCHEMES:
            self.same(wholes(table, scheme), len(slow.all_worlds(table, scheme)))

    def test_most(self):
        self.same(MOST_WHOLES, 5000)
        for table, scheme in SCHEMES:
            count = wholes(table, scheme)
            for most in (count, count + 1, 5000):
                self.same(wholes(table, scheme, most=most), count)
            for most in {1, count // 2, count - 1} - {0, count}:
                self.same(self.refused(TooWide, wholes, table, scheme, most=most).most, most)

    def test_five_thousand(self):
        self.same(wholes(STONE, idle_scheme(50, 10, 10)), 5000)
        self.same(wholes(STONE, idle_scheme(50, 10, 10), most=5000), 5000)
        self.same(self.refused(TooWide, wholes, STONE, idle_scheme(50, 10, 10), most=4999).most, 4999)
        for scheme in (idle_scheme(60, 60, 2), idle_scheme(60, 60, 60, 60), idle_scheme(42, 60, 2)):
            self.same(self.refused(TooWide, wholes, STONE, scheme).most, 5000)
            self.same(self.refused(TooWide, wholes, STONE, scheme, most=1).most, 1)


class TooWideComesFirst(Checks):
    def test_ahead_of_all_answers(self):
        wide = ((), (ONLY_END, ONLY_END, *idle_scheme(60, 60)[1]))
        small = ((), (ONLY_END, ONLY_END, *idle_scheme(3, 4)[1]))
        for asked in (wholes, broken, agree_paper, last_open, read_off, can_come_at_first):
            self.same(self.refused(TooWide, asked, STONE, idle_scheme(60, 60, 2)).most, 5000)
            self.same(self.refused(TooWide, asked, STONE, small, most=11).most, 11)
            asked(STONE, small, most=12)
            asked(STONE, wide, most=3600)
            self.same(self.refused(TooWide, asked, STONE, wide, most=3599).most, 3599)

    def test_what_takes_no_most_is_never_too_wide(self):
        wide = idle_scheme(60, 60, 60, 60)
        self.assertIs(weaving_holds(STONE, wide, [0] * 59 + [1] * 59), True)
        self.assertIs(agree_holds(STONE, wide, []), False)


class Broken(Checks):
    def test_known_ones(self):
        for table, scheme, due in KNOWN:
            self.assertEqual(broken(table, scheme) is None, due)
        self.same(broken(SLOT, STUBBORN), [])
        self.same(broken(STONE, ((), (ONLY_END, (("post", 0), END)))), [1])

    def test_none_where_it_agrees(self):
        for table, scheme in AGREEING:
            self.assertIsNone(broken(table, scheme))

    def test_a_shortest_one_that_holds(self):
        for table, scheme in UNLIKE:
            weaving = broken(table, scheme)
            self.assertIsInstance(weaving, list)
            self.assertEqual(len(weaving), slow.shortest(table, scheme))
            self.assertGreater(len(slow.gone(table, scheme, weaving).end_words()), 1)
            self.assertIs(weaving_holds(table, scheme, weaving), True)
            self.same(broken(table, scheme), weaving)

    def test_more_hands_than_the_level_never_agree(self):
        checked = 0
        for table, scheme in drawn_schemes(400):
            if len(scheme[1]) > level(table):
                checked += 1
                self.assertIsNotNone(broken(table, scheme))
        self.assertGreater(checked, 150)


class WeavingHolds(Checks):
    def test_cut(self):
        for table, scheme in UNLIKE:
            weaving = broken(table, scheme)
            for length in range(len(weaving)):
                self.assertIs(weaving_holds(table, scheme, weaving[:length]), False)

    def test_lengthened(self):
        for table, scheme in UNLIKE:
            weaving = broken(table, scheme)
            world = slow.gone(table, scheme, weaving)
            for hand in (-999999999, -1, *world.hands(), len(scheme[1]), 999999999):
                self.assertIs(weaving_holds(table, scheme, weaving + [hand]), hand in world.going())
            for hand in (-1, len(scheme[1])):
                self.assertIs(weaving_holds(table, scheme, [hand] + weaving), False)

    def test_until_all_have_ended(self):
        draw = Draw(5)
        for table, scheme in SCHEMES:
            for number in range(4):
                world = slow.World(table, scheme)
                weaving = []
                while world.going():
                    weaving.append(draw.one_of(world.going()))
                    world.step(weaving[-1])
                    self.assertIs(weaving_holds(table, scheme, weaving), len(world.end_words()) > 1)
                for hand in world.hands():
                    self.assertIs(weaving_holds(table, scheme, weaving + [hand]), False)

    def test_known_ones(self):
        self.assertIs(weaving_holds(FLAG, FLAG_LATE, [0, 1, 1, 0, 1]), True)
        self.assertIs(weaving_holds(FLAG, FLAG_LATE, [0, 0, 1, 1]), False)
        self.assertIs(weaving_holds(FLAG, FLAG_TWO, []), False)
        self.assertIs(weaving_holds(FLAG, FLAG_TWO, [0, 0, 1, 1, 1]), False)
        self.assertIs(weaving_holds(SLOT, STUBBORN, []), True)
        self.assertIs(weaving_holds(SLOT, STUBBORN, [0]), False)
        self.assertIs(weaving_holds(SLOT, STUBBORN, [2]), False)
        self.assertIs(weaving_holds(SLOT, STUBBORN, [-1]), False)

    def test_three_hundred_steps(self):
        self.assertIs(weaving_holds(SLOT, STUBBORN, [0] * 300), False)


class AgreePaper(Checks):
    def test_none_where_it_does_not_agree(self):
        for table, scheme in UNLIKE:
            self.assertIsNone(agree_paper(table, scheme))

    def test_all_wholes_each_once(self):
        for table, scheme in AGREEING:
            paper = agree_paper(table, scheme)
            self.assertIsInstance(paper, list)
            due = slow.all_worlds(table, scheme)
            self.same(sorted(map(repr, paper)), sorted(map(repr, due)))

    def test_it_holds_in_any_order_and_doubled(self):
        for table, scheme in AGREEING:
            paper = agree_paper(table, scheme)
            for shown in (paper, paper[::-1], paper + paper, sorted(paper, key=repr)):
                self.assertIs(agree_holds(table, scheme, shown), True)

    def test_no_whole_can_be_left_out(self):
        for table, scheme in AGREEING:
            paper = agree_paper(table, scheme)
            for at in range(0, len(paper), max(1, len(paper) // 25)):
                self.assertIs(agree_holds(table, scheme, paper[:at] + paper[at + 1:]), False)
            self.assertIs(agree_holds(table, scheme, []), False)
            self.assertIs(agree_holds(table, scheme, paper[:1]), False)
            self.assertIs(agree_holds(table, scheme, paper[1:]), False)
            self.assertIs(agree_holds(table, scheme, paper[:-1]), False)

    def test_no_paper_shows_what_does_not_agree(self):
        for table, scheme in UNLIKE:
            worlds = slow.all_worlds(table, scheme)
            self.assertIs(agree_holds(table, scheme, list(worlds)), False)
            alike = [whole for whole in worlds if len(worlds[whole].end_words()) < 2]
            self.assertIs(agree_holds(table, scheme, alike), False)

    def test_more_than_can_be_come_to(self):
        paper = agree_paper(FLAG, FLAG_TWO)
        self.assertEqual(paper.count(FIRST_OF_TWO), 1)
        nothing = (None, None, None)
        ended = ((3, 3), (1, 1), (0,), (nothing, nothing))
        unlike = ((3, 3), (0, 1), (0,), (nothing, nothing))
        ahead = ((3, 2), (0, 0), (0,), ((None, 1, 1), nothing))
        behind = ((3, 3), (0, 0), (0,), ((None, 1, 1), nothing))
        for whole in (ended, unlike, ahead, behind):
            self.assertNotIn(whole, paper)
        self.assertIs(agree_holds(FLAG, FLAG_TWO, [ended] + paper), True)
        self.assertIs(agree_holds(FLAG, FLAG_TWO, paper + [behind, ended]), True)
        self.assertIs(agree_holds(FLAG, FLAG_TWO, paper + [ahead, behind]), True)
        self.assertIs(agree_holds(FLAG, FLAG_TWO, [ahead] + paper), False)
        self.assertIs(agree_holds(FLAG, FLAG_TWO, [unlike] + paper), False)
        self.assertIs(agree_holds(FLAG, FLAG_TWO, paper + [unlike]), False)
        self.assertIs(agree_holds(FLAG, FLAG_TWO, [ended]), False)

    def test_another_scheme_s_paper(self):
        paper = agree_paper(FLAG, FLAG_TWO)
        self.assertIs(agree_holds(FLAG, FLAG_LATE, paper), False)
        self.assertIs(agree_holds(WHEEL, FLAG_TWO, paper), False)

    def test_four_hands(self):
        scheme = made(STICKY, 4)
        paper = agree_paper(STICKY, scheme)
        self.assertEqual(set(paper), set(slow.all_worlds(STICKY, scheme)))
        self.assertEqual(len(paper), wholes(STICKY, scheme))
        self.assertIs(agree_holds(STICKY, scheme, paper[::-1]), True)
        for at in (0, 1, 1000, len(paper) - 1):
            self.assertIs(agree_holds(STICKY, scheme, paper[:at] + paper[at + 1:]), False)


class CanCome(Checks):
    def test_as_gone_through_slowly(self):
        draw = Draw(9)
        for table, scheme in SCHEMES:
            many = len(scheme[1])
            for length in (0, 1, 2, 4, 7, 12):
                weaving = [draw.below(many) for step in range(length)]
                due = slow.coming(slow.gone(table, scheme, weaving))
                self.same(can_come(table, scheme, weaving), due)
                strange = [number for hand in weaving for number in (-1, hand, many, 999999999)]
                self.same(can_come(table, scheme, strange), due)

    def test_known_ones(self):
        self.same(can_come(FLAG, FLAG_TWO, []), [0, 1])
        self.same(can_come(FLAG, FLAG_TWO, [0, 1]), [0, 1])
        self.same(can_come(FLAG, FLAG_TWO, [0, 0]), [0])
        self.same(can_come(FLAG, FLAG_TWO, [0, 0, 0, 0, 0]), [0])
        self.same(can_come(FLAG, FLAG_TWO, [1, 1] + [0] * 298), [1])
        self.same(can_come(STICKY, STICKY_THREE, []), [0, 1, 2])
        self.same(can_come(SLOT, STUBBORN, [0, 1, 2, -5]), [0, 1])

    def test_wholes_are_those_from_there(self):
        scheme = idle_scheme(20, 20, 20)
        self.same(self.refused(TooWide, can_come, STONE, scheme, []).most, 5000)
        weaving = [0] * 10 + [1] * 10
        self.same(can_come(STONE, scheme, weaving, most=2000), [0, 1, 2])
        self.same(self.refused(TooWide, can_come, STONE, scheme, weaving, most=1999).most, 1999)
        self.same(can_come(STONE, scheme, ([0] * 19 + [1] * 19 + [2] * 19) * 2, most=1), [0, 1, 2])


class LastOpen(Checks):
    def test_none_where_it_does_not_agree(self):
        for table, scheme in UNLIKE:
            self.assertIsNone(last_open(table, scheme))
            self.assertIsNone(read_off(table, scheme))

    def test_one_word_behind_each_step(self):
        for table, scheme in AGREEING:
            told = last_open(table, scheme)
            self.assertIsInstance(told, tuple)
            weaving, pairs = told
            self.assertIsInstance(weaving, list)
            world = slow.World(table, scheme)
            for hand in weaving:
                self.assertIn(hand, world.going())
                world.step(hand)
            self.assertGreater(len(slow.coming(world)), 1)
            self.assertEqual(world.going(), list(world.hands()))
            due = [(hand, slow.coming(slow.behind(world, hand))) for hand in world.hands()]
            self.same([(hand, [word]) for hand, word in pairs], due)
            rows = [scheme[1][hand][world.at[hand]] for hand in world.hands()]
            self.assertEqual({(row[0], row[1]) for row in rows}, {("do", rows[0][1])})
            self.same(last_open(table, scheme), told)

    def test_the_choice_that_is_read_off_tells(self):
        for table, scheme in AGREEING:
            choice = read_off(table, scheme)
            self.assertEqual(len(choice[1]) + len(choice[2]), len(scheme[1]))
            self.assertTrue(oracle.tells(table, choice))
            self.same(read_off(table, scheme), choice)

    def test_the_choice_is_that_of_the_last_open_whole(self):
        for table, scheme in AGREEING:
            weaving, pairs = last_open(table, scheme)
            world = slow.gone(table, scheme, weaving)
            rows = [scheme[1][hand][world.at[hand]] for hand in world.hands()]
            ones = tuple(rows[hand][2] for hand, word in pairs if word == pairs[0][1])
            others = tuple(rows[hand][2] for hand, word in pairs if word != pairs[0][1])
            self.same(read_off(table, scheme), (world.things[rows[0][1]], ones, others))

    def test_known_ones(self):
        weaving, pairs = last_open(FLAG, FLAG_TWO)
        self.assertEqual(sorted(weaving), [0, 1])
        self.same(pairs, [(0, 0), (1, 1)])
        self.same(read_off(FLAG, FLAG_TWO), (0, (0,), (0,)))
        self.same(read_off(WHEEL, FLAG_TWO), (0, (0,), (0,)))

    def test_ones_are_those_with_hand_nought_s_word(self):
        # Hands 0 and 2 agree first by thing 1, then with hand 1 by thing 0, on which hand 1 does operation 0.
        scheme = (
            (0, 0),
            (
                (("post", 1), ("do", 1, 0, ((1, 3),)), ("take", 2, 1, 3))
                + (("post", 0), ("do", 0, 1, ((2, 6),)), ("take", 1, 0, 6), END),
                (("post", 0), ("do", 0, 0, ((1, 4),)), ("take", 0, 0, 4), ("take", 2, 0, 4), END),
                (("post", 1), ("do", 1, 1, ((2, 3),)), ("take", 0, 1, 3))
                + (("post", 0), ("do", 0, 1, ((2, 6),)), ("take", 1, 0, 6), END),
            ),
        )
        self.assertTrue(slow.agrees(STICKY, scheme))
        self.same(read_off(STICKY, scheme), (0, (1, 1), (0,)))
        weaving, pairs = last_open(STICKY, scheme)
        self.assertEqual([pairs[0][1] == word for hand, word in pairs], [True, False, True])


class Refusals(Checks):
    def all_asked(self):
        """(what is asked of a table and a scheme, whether it takes most)."""
        return (
            (wholes, True),
            (broken, True),
            (agree_paper, True),
            (last_open, True),
            (read_off, True),
            (can_come_at_first, True),
            (lambda table, scheme: weaving_holds(table, scheme, [0, 1]), False),
            (lambda table, scheme: agree_holds(table, scheme, [FIRST_OF_TWO]), False),
        )

    def test_bad_tables_and_schemes(self):
        for asked, takes_most in self.all_asked():
            for table, at in bad_tables():
                self.refused_at(at, BadTable, asked, table, FLAG_TWO)
                self.refused_at(at, BadTable, asked, table, ((9,), ()))
            for scheme, hand, row in bad_schemes():
                error = self.refused(BadScheme, asked, SLOT, scheme)
                self.same((error.hand, error.row), (hand, row))

    def test_most(self):
        for asked, takes_most in self.all_asked():
            for most in (-999999999, -1, 0, 5001, 5002, 999999999, True) if takes_most else ():
                self.refused(BadMany, asked, FLAG, FLAG_TWO, most=most)
                self.refused(BadMany, asked, STONE, idle_scheme(60, 60, 60), most=most)
                self.refused(BadTable, asked, (), FLAG_TWO, most=most)
                self.refused(BadScheme, asked, FLAG, ((2,), FLAG_TWO[1]), most=most)
                self.refused(BadScheme, asked, FLAG, ((), FLAG_TWO[1]), most=most)
            for most in (1, 2) if takes_most else ():
                self.same(self.refused(TooWide, asked, STONE, idle_scheme(60, 60, 60), most=most).most, most)

    def test_most_is_told_by_its_name_alone(self):
        for asked in (wholes, broken, agree_paper, last_open, read_off):
            with self.assertRaises(TypeError):
                asked(FLAG, FLAG_TWO, 5000)
        with self.assertRaises(TypeError):
            can_come(FLAG, FLAG_TWO, [], 5000)


if __name__ == "__main__":
    unittest.main()
