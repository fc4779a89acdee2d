"""The texts of choices and schemes ([21])."""

import unittest

import oracle
from checks import Checks
from samples import FLAG, LEVELS, SLOT, STICKY, STONE, WHEEL, bad_choices, bad_tables, drawn_tables
from scheme_samples import END, FLAG_TWO, ONLY_END, STUBBORN, bad_schemes, drawn_schemes, odd_schemes, right_schemes
from whofirst.errors import BadChoice, BadScheme, BadTable
from whofirst.makers import made
from whofirst.texts import choice_text, scheme_text


def read_part(text):
    """What a part of a row tells: ways, or a number."""
    if ">" not in text:
        return int(text)
    return tuple(tuple(map(int, way.split(">"))) for way in text.split(","))


def read_row(line):
    """The row that a line tells; ways that are not written are none."""
    word, *parts = line.split(" ")
    row = (word, *map(read_part, parts))
    if len(row) < {"do": 4, "look": 3}.get(word, 0):
        return (*row, ())
    return row


def read_scheme(text):
    """The scheme that a text tells, so that nothing of it is lost."""
    first, *lines = text.split("\n")[:-1]
    starts = tuple(map(int, first.split(" ")[1:]))
    codes = []
    for line in lines:
        if line.startswith("hand "):
            if line != f"hand {len(codes)}":
                raise ValueError(line)
            codes.append([])
        else:
            codes[-1].append(read_row(line))
    return starts, tuple(map(tuple, codes))


class Choices(Checks):
    def test_known_ones(self):
        self.same(choice_text(SLOT, (0, (0,), (1, 1))), "0 0|1,1")
        self.same(choice_text(STONE, (0, (0,), (0,))), "0 0|0")
        self.same(choice_text(WHEEL, (4, (0, 0, 0), (0,))), "4 0,0,0|0")
        self.same(choice_text(SLOT, (1, (2, 0), (1, 2))), "1 2,0|1,2")

    def test_all_choices(self):
        for table in (SLOT, STICKY) + tuple(drawn_tables(10)):
            for many in (2, 3, 4):
                for start, ones, others in oracle.every_choice(table, many):
                    due = str(start) + " " + ",".join(map(str, ones)) + "|" + ",".join(map(str, others))
                    self.same(choice_text(table, (start, ones, others)), due)

    def test_refuses(self):
        for choice in bad_choices():
            self.refused(BadChoice, choice_text, SLOT, choice)
        for table, at in bad_tables():
            for choice in ((0, (0,), (0,)), ()):
                self.refused_at(at, BadTable, choice_text, table, choice)


class Schemes(Checks):
    def test_known_ones(self):
        self.same(scheme_text(SLOT, STUBBORN), "things\nhand 0\nend\nhand 1\nend\n")
        due = (
            "things 0\n"
            "hand 0\npost 0\ndo 0 0 0>3\ntake 1 0 3\nend\n"
            "hand 1\npost 0\ndo 0 0 0>3\ntake 0 0 3\nend\n"
        )
        self.same(scheme_text(FLAG, FLAG_TWO), due)

    def test_four_hands_and_six_things(self):
        due = "things 4 3 2 1 0 4\nhand 0\nend\nhand 1\nend\nhand 2\nend\nhand 3\nend\n"
        self.same(scheme_text(WHEEL, ((4, 3, 2, 1, 0, 4), (ONLY_END,) * 4)), due)

    def test_ways(self):
        ten = tuple((number, 12 - number) for number in range(10))
        code = (("do", 0, 2, ten), ("do", 1, 0, ()), ("look", 0, ()), ("look", 1, ((9, 12), (0, 10))))
        code += (("do", 1, 1, ((7, 5),)), ("look", 1, ((3, 11),))) + (("post", 2),) * 5 + (("take", 1, 2, 12), END)
        written = (
            "things 0 1\nhand 0\nend\nhand 1\n"
            "do 0 2 0>12,1>11,2>10,3>9,4>8,5>7,6>6,7>5,8>4,9>3\n"
            "do 1 0\nlook 0\nlook 1 9>12,0>10\ndo 1 1 7>5\nlook 1 3>11\n"
            "post 2\npost 2\npost 2\npost 2\npost 2\ntake 1 2 12\nend\n"
        )
        self.same(scheme_text(SLOT, ((0, 1), (ONLY_END, code))), written)

    def test_rows_behind_an_end_row(self):
        scheme = ((), ((END, ("post", 1), END), ONLY_END))
        self.same(scheme_text(STONE, scheme), "things\nhand 0\nend\npost 1\nend\nhand 1\nend\n")

    def test_nothing_is_lost(self):
        found = [(SLOT, scheme) for scheme in right_schemes()] + drawn_schemes(150)
        found += [(table, made(table, many)) for table, due, mark in LEVELS for many in range(2, due + 1)]
        for table, scheme in found:
            text = scheme_text(table, scheme)
            self.same(read_scheme(text), scheme)
            self.form_fits(text)

    def form_fits(self, text):
        """One blank between, none at an end of a row, a line feed behind each row, no needless noughts."""
        self.assertTrue(text.endswith("\n"))
        lines = text[:-1].split("\n")
        for line in lines:
            self.assertEqual(line, " ".join(line.split()))
            self.assertNotEqual(line, "")
            self.assertNotRegex(line, r"\b0[0-9]")

    def test_refuses(self):
        for scheme, hand, row in bad_schemes() + [(scheme, -1, -1) for scheme in odd_schemes()]:
            error = self.refused(BadScheme, scheme_text, SLOT, scheme)
            self.same((error.hand, error.row), (hand, row))
        for table, at in bad_tables():
            for scheme in (FLAG_TWO, ()):
                self.refused_at(at, BadTable, scheme_text, table, scheme)


if __name__ == "__main__":
    unittest.main()
