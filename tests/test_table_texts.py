"""Tables as texts ([4])."""

import unittest

from checks import Checks
from samples import FLAG, SLOT, STICKY, STONE, WHEEL, bad_tables, drawn_tables
from whofirst.errors import BadTable, BadText
from whofirst.tables import look_table, table_of, table_text

TEXTS = (
    (STONE, "7:0"),
    (FLAG, "0:1 1:1"),
    ((((0, 1), (1, 1)), ((2, 0), (2, 0))), "0:1 1:1;2:0 2:0"),
    (SLOT, "0:0 0:0;0:1 0:1;0:0 1:1"),
    (WHEEL, "0:1 1:2 2:3 3:4 4:0"),
    ((((9, 4),) * 5,) * 4, ";".join(["9:4 9:4 9:4 9:4 9:4"] * 4)),
)
WRONG = (
    "", " ", ";", ":", "\n", "a", "0", "0:", ":0", "00", "0:1", "0:0;", ";0:0", "0:0;;0:0", "0:0 ;0:0", "0:0; 0:0",
    " 0:0", "0:0 ", "0:0\n", "\n0:0", "0 :0", "0: 0", "0:1  1:1", "0:1\n1:1", "0:1,1:1", "0:1 1:1 ", "0:1 1:",
    "0:1 11", "0:1 1:1;", "0:1 1:1\n", "0:1 1:1;2:0", "0:1;2:0 2:0", "0:1 1:1;2:0 2:0 2:0", "00:1 1:1", "0:01 1:1",
    "0:1 1:01", "+0:1 1:1", "-0:1 1:1", "-1:1 1:1", "0:-1 1:1", "10:1 1:1", "0:1 1:2", "0:2 1:1", "a:1 1:1",
    "0:a 1:1", "0;1 1;1", "0:1:1", "0.1 1.1", "0:1 1:1;;2:0 2:0", "0:1 1:1\n2:0 2:0", "0:0 0:0 0:0 0:0 0:0 0:0",
    "0:0;0:0;0:0;0:0;0:0", "0:1 1:1; 2:0 2:0", "0:1 1:1 ;2:0 2:0", "((0, 1), (1, 1))", "0:0" * 6000, "0" * 20000,
)


class Texts(Checks):
    def test_written(self):
        for table, text in TEXTS:
            self.assertEqual(table_text(table), text)

    def test_read(self):
        for table, text in TEXTS:
            self.same(table_of(text), table)

    def test_there_and_back(self):
        for table in (STICKY, *drawn_tables(120)):
            self.same(table_of(table_text(table)), table)

    def test_every_other_text_is_refused(self):
        for text in WRONG:
            with self.subTest(text=text[:40]):
                self.refused_at(0, BadText, table_of, text)

    def test_every_near_text_is_a_table_or_refused(self):
        text = "0:1 1:1;2:0 2:0"
        near = [text[:at] + text[at + 1:] for at in range(len(text))]
        for sign in " 0123456789:;\n~+-x":
            near += [text[:at] + sign + text[at:] for at in range(len(text) + 1)]
            near += [text[:at] + sign + text[at + 1:] for at in range(len(text))]
        right = 0
        for one in near:
            try:
                table = table_of(one)
            except BadText as error:
                self.assertEqual(error.at, 0)
            else:
                right += 1
                self.assertIsNone(look_table(table))
                self.assertEqual(table_text(table), one)
        # Each of the four answers may be any of ten figures, each of the four stands one of two; each of the
        # seven other signs stands for itself; and a blank for `;` makes one operation of four rows.
        self.assertEqual(right, 4 * 10 + 4 * 2 + 7 + 1)

    def test_what_is_no_table_has_no_text(self):
        for table, at in bad_tables():
            self.refused_at(at, BadTable, table_text, table)


if __name__ == "__main__":
    unittest.main()
