"""The names, arguments and constants of the interface, and calls by the names of the arguments ([2])."""

import inspect
import unittest

from checks import Checks
from samples import FLAG, SLOT, STICKY, WHEEL
from scheme_samples import FLAG_LATE, FLAG_TWO, STUBBORN
from whofirst import again, judge, levels, makers, rolls, runs, schemes, tables, teams, texts, towers
from whofirst.rolls import Roll
from whofirst.runs import Run
from whofirst.towers import Tower

CHOICE = (0, (0,), (1,))
PAPER = judge.agree_paper(FLAG, FLAG_TWO)
# (function, its arguments, what may be handed in for each of them)
FUNCTIONS = (
    (tables.look_table, "(table)", (FLAG,)),
    (tables.stands_of, "(table)", (WHEEL,)),
    (tables.done, "(table, stand, operation)", (SLOT, 1, 2)),
    (tables.gone, "(table, stand, operations)", (SLOT, 1, [2, 0, 2])),
    (tables.reached, "(table, stand)", (STICKY, 1)),
    (tables.table_text, "(table)", (STICKY,)),
    (tables.table_of, "(text)", ("0:1 1:1",)),
    (tables.with_operation, "(table, rows)", (FLAG, ((5, 0), (6, 0)))),
    (tables.without, "(table, operation)", (SLOT, 1)),
    (tables.with_row, "(table, operation, stand, row)", (SLOT, 2, 1, (5, 0))),
    (tables.turned, "(table, stands)", (STICKY, (1, 2, 0))),
    (tables.beside, "(one, other)", (FLAG, SLOT)),
    (teams.woven, "(table, choice, order)", (STICKY, CHOICE, (1, 0))),
    (teams.orders, "(many)", (3,)),
    (teams.seen, "(table, choice, hand)", (STICKY, CHOICE, 1)),
    (teams.clash, "(table, choice)", (SLOT, CHOICE)),
    (teams.clash_holds, "(table, choice, paper)", (SLOT, (0, (0,), (0,)), (0, (0,), (1, 0)))),
    (teams.marks, "(table, choice)", (STICKY, CHOICE)),
    (teams.choices, "(table, many)", (SLOT, 3)),
    (levels.telling, "(table, many)", (STICKY, 3)),
    (levels.level, "(table, *, most=4)", (STICKY, 3)),
    (levels.mark_level, "(table, *, most=4)", (STICKY, 2)),
    (levels.paper_of, "(table, many)", (FLAG, 3)),
    (levels.paper_holds, "(table, many, paper)", (STICKY, 2, ("tells", CHOICE))),
    (schemes.look_scheme, "(table, scheme)", (FLAG, FLAG_TWO)),
    (schemes.most_steps, "(code)", (FLAG_TWO[1][0],)),
    (judge.wholes, "(table, scheme, *, most=5000)", (FLAG, FLAG_TWO, 12)),
    (judge.broken, "(table, scheme, *, most=5000)", (FLAG, FLAG_LATE, 99)),
    (judge.weaving_holds, "(table, scheme, weaving)", (FLAG, FLAG_LATE, [0, 1, 1, 0, 1])),
    (judge.agree_paper, "(table, scheme, *, most=5000)", (FLAG, FLAG_TWO, 12)),
    (judge.agree_holds, "(table, scheme, paper)", (FLAG, FLAG_TWO, PAPER)),
    (judge.can_come, "(table, scheme, weaving, *, most=5000)", (FLAG, FLAG_TWO, [0, 0], 99)),
    (judge.last_open, "(table, scheme, *, most=5000)", (FLAG, FLAG_TWO, 99)),
    (judge.read_off, "(table, scheme, *, most=5000)", (FLAG, FLAG_TWO, 99)),
    (makers.made, "(table, many)", (STICKY, 3)),
    (again.keeps, "(table, choice)", (STICKY, CHOICE)),
    (again.keeping, "(table, many)", (STICKY, 3)),
    (again.keep_level, "(table, *, most=4)", (STICKY, 3)),
    (again.made_again, "(table, many)", (STICKY, 3)),
    (again.broken_again, "(table, scheme, *, most=5000)", (FLAG, FLAG_TWO, 4999)),
    (again.again_holds, "(table, scheme, moves)", (SLOT, STUBBORN, [("again", 1)])),
    (texts.choice_text, "(table, choice)", (STICKY, CHOICE)),
    (texts.scheme_text, "(table, scheme)", (FLAG, FLAG_TWO)),
)
# (class, the arguments by which one is made, what may be handed in for them)
CLASSES = (
    (Run, "(table, scheme, *, wishes=('a', 'b', 'c', 'd'))", (FLAG, FLAG_TWO, ("x", "y"))),
    (Roll, "(table, many, *, start=0)", (WHEEL, 3, 2)),
    (Tower, "(table, base, many, *, start=0)", (WHEEL, STICKY, 3, 2)),
)
# (class, method, its arguments, what may be handed in for them)
METHODS = (
    (Run, "step", "(self, hand)", (1,)),
    (Run, "stop", "(self, hand)", (1,)),
    (Run, "deed", "(self, row)", (("step", 1),)),
    (Run, "go", "(self, rows)", ([("step", 1), ("stop", 0)],)),
    (Run, "finish", "(self, hands)", ([1, 0],)),
    (Run, "busy", "(self)", ()),
    (Run, "back", "(self)", ()),
    (Run, "again", "(self)", ()),
    (Run, "places", "(self)", ()),
    (Run, "stands", "(self)", ()),
    (Run, "words", "(self)", ()),
    (Run, "slots", "(self)", ()),
    (Run, "ended", "(self)", ()),
    (Run, "stopped", "(self)", ()),
    (Run, "log", "(self)", ()),
    (Run, "left", "(self, *, most=5000)", (99,)),
    (Run, "twin", "(self)", ()),
    (Roll, "ask", "(self, hand, operation)", (1, 0)),
    (Roll, "step", "(self, hand)", (0,)),
    (Roll, "rows", "(self)", ()),
    (Roll, "pending", "(self, hand)", (0,)),
    (Roll, "behind", "(self, hand)", (0,)),
    (Roll, "stand", "(self, hand)", (0,)),
    (Tower, "ask", "(self, hand, operation)", (1, 0)),
    (Tower, "step", "(self, hand)", (0,)),
    (Tower, "rows", "(self)", ()),
    (Tower, "come", "(self)", ()),
    (Tower, "place", "(self, hand)", (0,)),
    (Tower, "pending", "(self, hand)", (0,)),
    (Tower, "stand", "(self, hand)", (0,)),
    (Tower, "room", "(self, hand)", (0,)),
)


def made_thing(kind):
    """One that has begun, so that each method has something to tell."""
    if kind == Run:
        run = Run(FLAG, FLAG_TWO)
        run.go([("step", 0), ("step", 1), ("step", 1)])
        run.back()
        return run
    thing = Roll(WHEEL, 2) if kind == Roll else Tower(WHEEL, FLAG, 2)
    thing.ask(0, 0)
    return thing


def split(function, given):
    """What is handed in by place at the most, and by name at the least."""
    names = [name for name in inspect.signature(function).parameters if name != "self"]
    named = {name: one.kind == one.KEYWORD_ONLY for name, one in inspect.signature(function).parameters.items()}
    by_place = [worth for name, worth in zip(names, given) if not named[name]]
    by_name = {name: worth for name, worth in zip(names, given) if named[name]}
    return by_place, by_name


def all_named(function, given):
    """All by their names, in turned order."""
    names = [name for name in inspect.signature(function).parameters if name != "self"]
    return dict(reversed(list(zip(names, given))))


class Names(Checks):
    def test_arguments(self):
        for function, due, given in FUNCTIONS:
            self.assertEqual(str(inspect.signature(function)), due, function.__name__)
        for kind, due, given in CLASSES:
            self.assertEqual(str(inspect.signature(kind)), due, kind.__name__)
        for kind, name, due, given in METHODS:
            self.assertEqual(str(inspect.signature(getattr(kind, name))), due, name)

    def test_each_method_is_defined_in_its_class(self):
        for kind, name, due, given in METHODS:
            self.assertIn(name, vars(kind))
        for kind in (Run, Roll, Tower):
            self.assertIn("__len__", vars(kind))
        self.assertIn("__eq__", vars(Run))

    def test_constants(self):
        self.same((tables.MOST_STANDS, tables.MOST_OPERATIONS, teams.MOST_HANDS, judge.MOST_WHOLES), (5, 4, 4, 5000))
        self.same(runs.WISHES, ("a", "b", "c", "d"))

    def test_modules(self):
        for module, name in ((runs, "Run"), (rolls, "Roll"), (towers, "Tower")):
            self.assertEqual(getattr(module, name).__module__, module.__name__)


class ByName(Checks):
    def test_functions(self):
        for function, due, given in FUNCTIONS:
            by_place, by_name = split(function, given)
            self.same(function(**all_named(function, given)), function(*by_place, **by_name))

    def test_classes(self):
        self.assertEqual(Run(wishes=("x", "y"), scheme=FLAG_TWO, table=FLAG).words(), ["x", "y"])
        self.assertEqual(Roll(start=2, many=3, table=WHEEL).stand(2), 2)
        self.assertEqual(Tower(start=2, many=3, base=STICKY, table=WHEEL).stand(2), 2)

    def test_methods(self):
        for kind, name, due, given in METHODS:
            one, other = made_thing(kind), made_thing(kind)
            by_place, by_name = split(getattr(kind, name), given)
            told = getattr(one, name)(**all_named(getattr(kind, name), given))
            due = getattr(other, name)(*by_place, **by_name)
            self.assertEqual(told, due) if name == "twin" else self.same(told, due)

    def test_what_stands_behind_the_star_by_its_name_alone(self):
        for function, due, given in FUNCTIONS:
            if "*" in due:
                with self.assertRaises(TypeError):
                    function(*given)
        for kind, due, given in CLASSES:
            with self.assertRaises(TypeError):
                kind(*given)
        with self.assertRaises(TypeError):
            made_thing(Run).left(99)


if __name__ == "__main__":
    unittest.main()
