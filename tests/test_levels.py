"""Choices that tell, levels, mark levels and papers ([7] and [9])."""

import unittest

import oracle
from checks import Checks
from samples import FLAG, LEVELS, SLOT, STICKY, STONE, WHEEL, bad_choices, bad_tables, drawn_tables
from whofirst.errors import BadChoice, BadMany, BadTable
from whofirst.levels import level, mark_level, paper_holds, paper_of, telling
from whofirst.teams import choices, clash_holds

WRONG_COUNTS = (-999999999, -1, 0, 1, 5, 6, 999999999)
WRONG_MOST = (-999999999, -1, 0, 5, 6, 999999999)


class Telling(Checks):
    def test_telling(self):
        self.same(telling(FLAG, 2), (0, (0,), (0,)))
        self.assertIsNone(telling(FLAG, 3))
        self.same(telling(STICKY, 2), (0, (0,), (1,)))
        self.same(telling(STICKY, 3), (0, (0,), (1, 1)))
        self.same(telling(STICKY, 4), (0, (0,), (1, 1, 1)))
        for many in (2, 3, 4):
            self.assertIsNone(telling(SLOT, many))

    def test_the_first_of_all(self):
        for table in drawn_tables(40, 2):
            for many in (2, 3, 4):
                due = [choice for choice in oracle.choices(table, many) if oracle.tells(table, choice)]
                self.same(telling(table, many), due[0] if due else None)

    def test_refuses(self):
        for many in WRONG_COUNTS:
            self.refused(BadMany, telling, SLOT, many)
            for table, at in bad_tables():
                self.refused_at(at, BadTable, telling, table, many)


class Levels(Checks):
    def test_known_levels(self):
        for table, due, due_mark in LEVELS:
            self.same((level(table), mark_level(table)), (due, due_mark))

    def test_all_levels_are_known_tables(self):
        self.assertEqual({due for table, due, due_mark in LEVELS}, {1, 2, 3, 4})
        self.assertEqual({due_mark for table, due, due_mark in LEVELS}, {1, 2, 3, 4})

    def test_most(self):
        for table, due, due_mark in LEVELS:
            for most in (1, 2, 3, 4):
                self.same(level(table, most=most), min(due, most))
                self.same(mark_level(table, most=most), min(due_mark, most))

    def test_as_told_by_all_choices(self):
        tables = [table for table in drawn_tables(60, 2) if len(table[0]) <= 3] + [LEVELS[5][0], STICKY]
        for table in tables:
            self.same(level(table), oracle.greatest(table, oracle.tells))
            self.same(mark_level(table), oracle.greatest(table, oracle.marks))

    def test_mark_level_is_never_greater(self):
        for table in drawn_tables(120):
            self.assertLessEqual(mark_level(table), level(table))

    def test_refuses(self):
        for asked in (level, mark_level):
            for table, at in bad_tables():
                self.refused_at(at, BadTable, asked, table)
                with self.assertRaises(BadTable):
                    asked(table, most=0)
            for most in (*WRONG_MOST, True):
                self.refused(BadMany, asked, SLOT, most=most)

    def test_most_is_told_by_its_name_alone(self):
        for asked in (level, mark_level):
            with self.assertRaises(TypeError):
                asked(SLOT, 2)


class Papers(Checks):
    def test_tells(self):
        self.same(paper_of(FLAG, 2), ("tells", (0, (0,), (0,))))
        for table in (STICKY, FLAG, *drawn_tables(40)):
            for many in (2, 3, 4):
                told = telling(table, many)
                if told is not None:
                    self.same(paper_of(table, many), ("tells", told))

    def test_none(self):
        word, pairs = paper_of(SLOT, 2)
        self.assertEqual(word, "none")
        self.assertIsInstance(pairs, list)
        self.same([choice for choice, shown in pairs], choices(SLOT, 2))
        for choice, shown in pairs:
            self.assertIn(shown, oracle.clashes(SLOT, choice))

    def test_made_papers_hold(self):
        words = set()
        for table in (STONE, FLAG, SLOT, STICKY, WHEEL, *drawn_tables(40)):
            for many in (2, 3, 4):
                paper = paper_of(table, many)
                words.add(paper[0])
                self.assertIs(paper_holds(table, many, paper), True)
                self.same(paper_of(table, many), paper)
        self.assertEqual(words, {"tells", "none"})

    def test_any_choice_that_tells_will_do(self):
        for choice in ((0, (1,), (0, 0)), (0, (0, 0), (1,)), (0, (1, 1), (0,))):
            self.assertIs(paper_holds(STICKY, 3, ("tells", choice)), True)
        self.assertIs(paper_holds(STICKY, 4, ("tells", (0, (1, 1, 1), (0,)))), True)

    def test_a_choice_for_another_count(self):
        self.assertIs(paper_holds(STICKY, 3, ("tells", (0, (0,), (1,)))), False)
        self.assertIs(paper_holds(STICKY, 2, ("tells", (0, (0,), (1, 1)))), False)

    def test_a_choice_that_does_not_tell(self):
        self.assertIs(paper_holds(STICKY, 2, ("tells", (1, (0,), (1,)))), False)
        self.assertIs(paper_holds(FLAG, 3, ("tells", (0, (0,), (0, 0)))), False)
        for table in drawn_tables(20):
            for many in (2, 3):
                for choice in oracle.choices(table, many):
                    due = oracle.tells(table, choice)
                    self.assertIs(paper_holds(table, many, ("tells", choice)), due)

    def test_no_paper_where_one_tells(self):
        pairs = [(choice, (0, (0,), (1, 0))) for choice in choices(STICKY, 2)]
        self.assertIs(paper_holds(STICKY, 2, ("none", pairs)), False)
        self.assertIs(paper_holds(STICKY, 2, ("none", [])), False)

    def test_changed_lists(self):
        for many in (2, 3):
            pairs = paper_of(SLOT, many)[1]
            wrong = [
                [], pairs[1:], pairs[:-1], pairs[::-1], pairs + pairs[:1], pairs[:1] + pairs,
                [pairs[1], pairs[0]] + pairs[2:],
            ]
            for changed in wrong:
                self.assertIs(paper_holds(SLOT, many, ("none", changed)), False)

    def test_one_wrong_clash(self):
        pairs = paper_of(SLOT, 2)[1]
        for at, (choice, (hand, first, second)) in enumerate(pairs):
            for shown in ((hand, second, first), (2, first, second), (hand, (), second), (hand, first, (1, 1))):
                changed = pairs[:at] + [(choice, shown)] + pairs[at + 1:]
                self.assertIs(paper_holds(SLOT, 2, ("none", changed)), False)

    def test_any_clash_will_do(self):
        due = [(choice, oracle.clashes(SLOT, choice)) for choice in choices(SLOT, 2)]
        for which in (0, -1):
            pairs = [(choice, found[which]) for choice, found in due]
            self.assertIs(paper_holds(SLOT, 2, ("none", pairs)), True)

    def test_a_list_with_a_choice_that_is_none(self):
        pairs = paper_of(SLOT, 2)[1]
        for choice in ((2, (0,), (1,)), (0, (3,), (1,)), (0, (), (1,)), (0, (0,), (1, 1, 1, 1)), ()):
            for at in (0, len(pairs) - 1):
                changed = pairs[:at] + [(choice, pairs[at][1])] + pairs[at + 1:]
                self.assertIs(paper_holds(SLOT, 2, ("none", changed)), False)

    def test_a_like_choice_is_another_one(self):
        pairs = paper_of(SLOT, 2)[1]
        at = [choice for choice, shown in pairs].index((0, (0,), (1,)))
        found = oracle.clashes(SLOT, (0, (1,), (0,)))
        self.assertIs(clash_holds(SLOT, (0, (1,), (0,)), found[0]), True)
        changed = pairs[:at] + [((0, (1,), (0,)), found[0])] + pairs[at + 1:]
        self.assertIs(paper_holds(SLOT, 2, ("none", changed)), False)

    def test_what_is_almost_a_paper(self):
        pairs = paper_of(SLOT, 2)[1]
        self.assertIs(paper_holds(SLOT, 2, ("none", tuple(pairs))), False)
        self.assertIs(paper_holds(SLOT, 2, ("none", (0, (0,), (1,)))), False)
        self.assertIs(paper_holds(SLOT, 2, ("nones", pairs)), False)
        self.refused(BadChoice, paper_holds, SLOT, 2, ("tells", pairs))

    def test_the_longest_paper(self):
        largest = (((0, 0),) * 5,) * 4
        paper = paper_of(largest, 4)
        self.assertEqual((paper[0], len(paper[1])), ("none", 675))
        self.assertIs(paper_holds(largest, 4, paper), True)

    def test_refuses(self):
        for many in WRONG_COUNTS:
            self.refused(BadMany, paper_of, SLOT, many)
            self.refused(BadMany, paper_holds, SLOT, many, ("none", []))
            self.refused(BadMany, paper_holds, SLOT, many, ("tells", ()))
        for table, at in bad_tables():
            self.refused_at(at, BadTable, paper_of, table, 7)
            self.refused_at(at, BadTable, paper_holds, table, 7, ("tells", ()))
        for choice in bad_choices():
            self.refused(BadChoice, paper_holds, SLOT, 2, ("tells", choice))


if __name__ == "__main__":
    unittest.main()
