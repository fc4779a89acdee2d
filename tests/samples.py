"""Tables for the tests."""

# A slot with two values: write nought, write one, read.
SLOT = (((0, 0), (0, 0)), ((0, 1), (0, 1)), ((0, 0), (1, 1)))
# Who comes first is answered 0, the others 1.
FLAG = (((0, 1), (1, 1)),)
# The first to come settles the stand for ever.
STICKY = (((1, 1), (1, 1), (2, 2)), ((2, 2), (1, 1), (2, 2)))
# Nothing but one stand.
STONE = (((7, 0),),)
# Answers the stand, then goes round.
WHEEL = (((0, 1), (1, 2), (2, 3), (3, 4), (4, 0)),)

# (table, level, mark level)
LEVELS = (
    (STONE, 1, 1),
    (SLOT, 1, 1),
    (FLAG, 2, 1),
    (WHEEL, 2, 1),
    ((((0, 2), (0, 0), (0, 1)), ((0, 2), (0, 1), (0, 0))), 2, 2),
    ((((0, 2), (1, 1), (0, 1)), ((0, 1), (0, 0), (1, 2))), 3, 2),
    ((((0, 3), (0, 0), (0, 0), (0, 3)), ((0, 2), (0, 0), (0, 1), (0, 3))), 3, 3),
    ((((1, 2), (0, 0), (0, 3), (1, 1)), ((1, 1), (1, 3), (1, 0), (0, 3))), 4, 3),
    (STICKY, 4, 4),
)

# (table, mark level, keep level)
KEEP_LEVELS = (
    (STONE, 1, 1),
    (SLOT, 1, 1),
    (FLAG, 1, 1),
    (WHEEL, 1, 1),
    ((((0, 1), (0, 0), (0, 2)), ((0, 1), (0, 2), (0, 2))), 2, 1),
    ((((0, 0), (0, 1), (0, 1)), ((0, 1), (0, 2), (0, 0))), 4, 1),
    ((((0, 0), (0, 0), (1, 1)), ((1, 1), (0, 1), (0, 0))), 2, 2),
    ((((1, 0), (0, 2), (1, 1)), ((1, 2), (1, 0), (0, 2))), 2, 2),
    ((((0, 1), (1, 1), (0, 0), (1, 2)), ((1, 3), (1, 1), (0, 3), (0, 1))), 3, 2),
    ((((0, 3), (0, 3), (0, 1), (0, 3)), ((0, 1), (0, 1), (0, 3), (0, 0))), 3, 3),
    ((((0, 1), (1, 0), (0, 4), (1, 1), (0, 4)), ((0, 2), (0, 0), (1, 3), (0, 4), (0, 2))), 4, 3),
    ((((0, 0), (0, 2), (0, 2)), ((0, 2), (0, 0), (0, 2))), 4, 4),
    (STICKY, 4, 4),
)

# The first choices for four hands that tell, and keep, have two ones and two others.
PAIRED = (
    (((0, 0), (0, 0), (0, 3), (0, 3)), ((0, 0), (0, 3), (0, 0), (0, 2))),
    (((0, 0), (0, 0), (0, 2), (0, 3)), ((0, 0), (0, 3), (0, 0), (0, 2))),
)
# Some hand may see the same stand behind two answers, and it tells of another team behind each of them.
TWISTED = (
    (((0, 1), (0, 4), (0, 3), (1, 2), (1, 0)), ((1, 3), (0, 4), (1, 2), (0, 3), (0, 2))),
    (((0, 0), (2, 2), (1, 4), (0, 4), (2, 1)), ((1, 2), (2, 3), (0, 0), (0, 3), (1, 0))),
    (((0, 1), (0, 4), (0, 0), (1, 2), (0, 3)), ((1, 2), (0, 4), (1, 3), (0, 2), (1, 0))),
)


def drawn_tables(count, most_operations=4):
    """Tables of all sizes, drawn by a plain rule that is ever the same."""
    state = 12345
    tables = []
    for number in range(count):
        stands = number % 5 + 1
        operations = number // 5 % most_operations + 1
        answers = number // 20 % 3 + 1
        table = []
        for operation in range(operations):
            rows = []
            for stand in range(stands):
                state = (state * 1103515245 + 12345) % 2147483648
                rows.append((state // 65536 % answers, state // 1048576 % stands))
            table.append(tuple(rows))
        tables.append(tuple(table))
    return tables


def bad_tables():
    """(what is no table, the field `at`)."""
    good = ((0, 1), (1, 1))
    return [
        ((), 0),
        (((),), 0),
        (((), ()), 0),
        ((((0, 0),) * 6,), 0),
        ((((0, 0),) * 6,) * 2, 0),
        ((((0, 0),) * 300,), 0),
        ((good,) * 5, 4),
        ((good,) * 300, 4),
        ((good, good, good, good, ()), 4),
        ((good, ()), 1),
        ((good, good[:1]), 1),
        ((good, good, good + good[:1]), 2),
        ((good, good, good, good[:1]), 3),
        ((good, good[:1], good, good, good), 1),
        ((good, good[:1], ()), 1),
        ((((0, 1), (10, 1)),), 0),
        ((((0, 1), (-1, 1)),), 0),
        ((((0, 2), (0, 1)),), 0),
        ((((0, -1), (0, 1)),), 0),
        ((good, ((0, 0), (0, 2))), 1),
        ((good, ((10, 0), (0, 0))), 1),
        ((good, ((999999999, 0), (0, 0))), 1),
        ((good, ((0, 0), (0, -999999999))), 1),
        ((good, good, ((0, 0), (0, 0, 0))), 2),
        ((good, good, ((0, 0), (0,))), 2),
        ((good, good, ((0, 0), ())), 2),
        ((good, ((True, 0), (0, 0))), 1),
        ((good, ((0, 0), (False, 0))), 1),
        ((good, ((0, True), (0, 0))), 1),
        ((((0, 0), (0, False)),), 0),
        ((good, (("0", 0), (0, 0))), 1),
        ((good, ((0, None), (0, 0))), 1),
        ((good, ((0, 0), [0, 0])), 1),
        ((good, [(0, 0), (0, 0)]), 1),
        (([(0, 0), (0, 0)], good), 0),
        ((good, 7), 1),
        ((7, good), 0),
        ([good], 0),
        (None, 0),
        ("0:1 1:1", 0),
        (5, 0),
    ]


def bad_choices():
    """What is no choice of SLOT, which has two stands and three operations."""
    return [
        (),
        (0, (0,)),
        (0, (0,), (1,), (2,)),
        (2, (0,), (1,)),
        (-1, (0,), (1,)),
        (0, (), (1, 2)),
        (0, (0, 1), ()),
        (0, (), ()),
        (0, (0, 0), (1, 1, 1)),
        (0, (0, 0, 0, 0), (1,)),
        (0, (0,), (0,) * 299),
        (0, (3,), (1,)),
        (0, (0,), (1, 3)),
        (0, (-1,), (1,)),
        (0, (0,), (1, 999999999)),
        (True, (0,), (1,)),
        (False, (0,), (1,)),
        (0, (True,), (1,)),
        (0, (0,), (1, False)),
        ("0", (0,), (1,)),
        (None, (0,), (1,)),
        (0, ("0",), (1,)),
        (0, 0, 1),
        (0, [0], (1,)),
        (0, (0,), [1]),
        [0, (0,), (1,)],
        None,
        0,
        "0 0|1",
    ]


def bad_orders():
    """What is no order of three hands."""
    return [
        (),
        (3,),
        (-1,),
        (0, 3),
        (0, 0),
        (0, 1, 0),
        (0, 1, 2, 0),
        (0, 1, 2, 3),
        (999999999,),
        (True,),
        (False,),
        (0, True),
        (True, 0, 2),
        ("0",),
        (None,),
        ((0,),),
        [0, 1],
        [],
        None,
        0,
    ]
