"""Schemes for the tests."""

from samples import FLAG, LEVELS, SLOT, STICKY, WHEEL

END = ("end",)
ONLY_END = (END,)
# Two hands by a thing of FLAG: who is answered 0 was first.
FLAG_TWO = (
    (0,),
    (
        (("post", 0), ("do", 0, 0, ((0, 3),)), ("take", 1, 0, 3), END),
        (("post", 0), ("do", 0, 0, ((0, 3),)), ("take", 0, 0, 3), END),
    ),
)
# The same, but a hand posts only behind its do: the other may find nothing.
FLAG_LATE = (
    (0,),
    (
        (("do", 0, 0, ((0, 2),)), ("take", 1, 0, 3), ("post", 0), END),
        (("do", 0, 0, ((0, 2),)), ("take", 0, 0, 3), ("post", 0), END),
    ),
)
# Three hands by one thing of STICKY, hands 1 and 2 as if they had agreed; they have not.
STICKY_THREE = (
    (0,),
    (
        (("post", 0), ("do", 0, 0, ((1, 4),)), ("take", 1, 0, 4), ("take", 2, 0, 4), END),
        (("post", 0), ("do", 0, 1, ((2, 3),)), ("take", 0, 0, 3), END),
        (("post", 0), ("do", 0, 1, ((2, 3),)), ("take", 0, 0, 3), END),
    ),
)
# Both keep their own words.
STUBBORN = ((), (ONLY_END, ONLY_END))
# (table, scheme, whether it agrees)
KNOWN = (
    (FLAG, FLAG_TWO, True),
    (FLAG, FLAG_LATE, False),
    (STICKY, STICKY_THREE, False),
    (SLOT, STUBBORN, False),
    (WHEEL, FLAG_TWO, True),
    (SLOT, FLAG_TWO, False),
)


class Draw:
    """Numbers by a plain rule that is ever the same."""

    def __init__(self, state):
        self.state = state

    def below(self, bound):
        self.state = (self.state * 1103515245 + 12345) % 2147483648
        return self.state // 65536 % bound

    def one_of(self, things):
        return things[self.below(len(things))]


def drawn_ways(draw, at, count, most):
    numbers = []
    for place in range(draw.below(most + 1)):
        number = draw.below(10) if draw.below(4) == 0 else draw.below(3)
        if number not in numbers:
            numbers.append(number)
    return tuple((number, at + 1 + draw.below(count - at - 1)) for number in numbers)


def drawn_row(draw, table, starts, many, at, count):
    """A right row that is not the last one of a code of so many rows."""
    words = ("post", "take", "do", "do", "look", "end") if starts else ("post", "take", "take", "end")
    word = draw.one_of(words)
    if word == "post":
        return ("post", draw.below(3))
    if word == "take":
        return ("take", draw.below(many), draw.below(3), at + 1 + draw.below(count - at - 1))
    if word == "do":
        return ("do", draw.below(len(starts)), draw.below(len(table)), drawn_ways(draw, at, count, 3))
    if word == "look":
        return ("look", draw.below(len(starts)), drawn_ways(draw, at, count, 3))
    return END


def drawn_scheme(draw, table, many, longest, most_things=2):
    starts = tuple(draw.below(len(table[0])) for thing in range(draw.below(most_things + 1)))
    codes = []
    for hand in range(many):
        count = 1 + draw.below(longest)
        rows = [drawn_row(draw, table, starts, many, at, count) for at in range(count - 1)]
        codes.append((*rows, END))
    return starts, tuple(codes)


def drawn_schemes(count):
    """(table, scheme) for two, three and four hands, of tables of all levels, small enough to go through slowly."""
    draw = Draw(7)
    found = []
    for number in range(count):
        many = 2 + number % 3
        table = LEVELS[number // 3 % len(LEVELS)][0]
        found.append((table, drawn_scheme(draw, table, many, (8, 5, 4)[many - 2])))
    return found


def with_drawn_row(draw, table, scheme):
    """The scheme with another right row in the place of one that is no last one."""
    starts, codes = scheme
    hand = draw.one_of([hand for hand, code in enumerate(codes) if len(code) > 1])
    code = codes[hand]
    at = draw.below(len(code) - 1)
    row = drawn_row(draw, table, starts, len(codes), at, len(code))
    return with_code(scheme, hand, (*code[:at], row, *code[at + 1:]))


def with_code(scheme, hand, code):
    starts, codes = scheme
    return starts, (*codes[:hand], code, *codes[hand + 1:])


def shifted(row):
    """A row whose ways lead one row further."""
    if row[0] == "take":
        return (*row[:3], row[3] + 1)
    if row[0] in ("do", "look"):
        return (*row[:-1], tuple((number, to + 1) for number, to in row[-1]))
    return row


def with_row_ahead(scheme, hand, row):
    """The scheme in which a hand does one more row first."""
    return with_code(scheme, hand, (row, *(shifted(one) for one in scheme[1][hand])))


def renamed(scheme, names):
    """The scheme in which hand k is called names[k]."""
    starts, codes = scheme
    placed = list(codes)
    for hand, code in enumerate(codes):
        rows = [("take", names[row[1]], *row[2:]) if row[0] == "take" else row for row in code]
        placed[names[hand]] = tuple(rows)
    return starts, tuple(placed)


def idle_code(count):
    """A code of so many rows which does nothing that others see; nothing ever comes into slot 2 of hand 0."""
    return tuple(("take", 0, 2, at + 1) for at in range(count - 1)) + ONLY_END


def idle_scheme(*counts):
    """The wholes of it are as many as all counts multiplied."""
    return (), tuple(idle_code(count) for count in counts)


def right_schemes():
    """Schemes of SLOT, at the edges that the document names."""
    ten = tuple((number, 59) for number in range(10))
    filler = ("take", 1, 2, 59)
    sixty = (("do", 0, 2, ten), ("look", 5, ten)) + (filler,) * 57 + ONLY_END
    return [
        STUBBORN,
        FLAG_TWO,
        FLAG_LATE,
        ((), (ONLY_END,) * 4),
        ((), (ONLY_END,) * 3),
        ((0, 1, 0, 1, 0, 1), (ONLY_END, sixty)),
        ((1,) * 6, (sixty,) * 4),
        ((0,), (ONLY_END, (("do", 0, 0, ()), ("look", 0, ()), END))),
        ((), (ONLY_END, (("post", 0), ("post", 1), ("post", 2), END))),
        ((), ((("take", 0, 0, 1), END), (("take", 0, 1, 2), ("take", 1, 2, 2), END))),
        ((), ((END, ("post", 0), END, ("take", 1, 0, 4), END), ONLY_END)),
        ((0,), ((("do", 0, 1, ((9, 1), (0, 2))), END, ("look", 0, ((4, 3),)), END), ONLY_END)),
        idle_scheme(60, 60, 60, 60),
    ]


def row_cases():
    """Wrong rows for place 1 of a code of four rows, of a scheme of SLOT with two things and three hands."""
    beyond = (-999999999, -1, 3, 4, 999999999, True, False, None, "0", (0,))
    further = (-999999999, -1, 0, 1, 4, 5, 999999999, True, False, None, "2", (2,))
    cases = [(), ("stop",), ("END",), ("",), ("end", 0), ("end", ()), ("post",), ("take",), ("do",), ("look",)]
    cases += [("post", slot) for slot in beyond] + [("post", 0, 0), ("post", (0,))]
    cases += [("take", hand, 0, 2) for hand in beyond] + [("take", 0, slot, 2) for slot in beyond]
    cases += [("take", 0, 0, to) for to in further] + [("take", 0, 0), ("take", 0, 0, 2, 2), ("take", 0)]
    cases += [("do", thing, 0, ()) for thing in (2, *beyond)] + [("do", 0, operation, ()) for operation in beyond]
    cases += [("look", thing, ()) for thing in (2, *beyond)]
    cases += [("do", 0, 0), ("do", 0, ()), ("do", 0, 0, (), ()), ("look", 0), ("look", 0, 0, ()), ("look", ())]
    for ways in wrong_ways(further):
        cases += [("do", 0, 0, ways), ("look", 0, ways)]
    cases += [("step", 0), ("again", 0), ["post", 0], None, 7, "end", (0, 0), (None,), (True, 0)]
    return cases


def wrong_ways(further):
    numbers = (-999999999, -1, 10, 11, 999999999, True, False, None, "0")
    found = [((number, 2),) for number in numbers] + [((0, to),) for to in further]
    found += [((0, 2), (10, 2)), ((0, 2), (1, 1)), ((0, 2), (0, 2)), ((0, 2), (0, 3)), ((3, 2), (1, 2), (3, 2))]
    found += [tuple((number, 2) for number in range(11)), tuple((number % 10, 2) for number in range(11))]
    found += [tuple((number % 10, 3) for number in range(300))]
    return found + [((0, 2, 2),), ((0,),), ((),), [(0, 2)], ([0, 2],), 0, None]


def bad_schemes():
    """(what is no scheme of SLOT, the fields `hand` and `row`)."""
    good = FLAG_TWO[1][0]
    wrong = (("post", 3), END)
    later = (("post", 0), ("post", 3), ("look", 1, ()), END)
    long = (("post", 0),) * 60 + ONLY_END
    two = (good, good)
    found = [((start,), two, -1, -1) for start in (2, -1, 999999999, True, False, None, "0", (0,))]
    found += [((0, 2), two, -1, -1), ((0,) * 7, two, -1, -1), ((0,) * 300, two, -1, -1), ([0], two, -1, -1)]
    found += [((0,), (good,) * many, -1, -1) for many in (0, 1, 5, 6, 300)]
    found += [((0,), list(two), -1, -1), ((2,), (wrong, wrong), -1, -1), ((0,), (wrong,) * 5, -1, -1)]
    found += [((0,), (wrong,), -1, -1), ((0, 0, 0, 0, 0, 0, 0), (wrong, ()), -1, -1)]
    for code in ((), long, long[1:-1], good[:-1], (*good, ("post", 0)), (("end", 0),), ((),), (*wrong, ("stop",))):
        found += [((0,), (code, good), 0, -1), ((0,), (good, code), 1, -1), ((0,), (good, good, good, code), 3, -1)]
        found += [((0,), (code, code), 0, -1), ((0,), (wrong, code), 0, 0), ((0,), (code, wrong), 0, -1)]
    found += [((0,), (list(good), good), 0, -1), ((0,), (good, [END]), 1, -1), ((0,), (good, (["end"],)), 1, -1)]
    found += [((0,), (good, long + long), 1, -1), ((0,), (good, (("post", 3),) * 300), 1, -1)]
    found += [((0,), (good, wrong), 1, 0), ((0,), (good, later), 1, 1), ((0,), (later, wrong), 0, 1)]
    found += [((0,), (good, later[2:]), 1, 0), ((), (good, good), 0, 1), ((), (ONLY_END, good), 1, 1)]
    found += [((0,), (good, (END, ("post", 3), END)), 1, 1), ((0,), (good, (END, END, ("take", 0, 0, 2), END)), 1, 2)]
    found += [((0,), (good, (END, END, ("take", 2, 0, 3), END)), 1, 2), ((0,), (good, (("do", 0, 3, ()), END)), 1, 0)]
    found += [((0,), (good, long[2:-1] + (("take", 0, 0, 60), END)), 1, 58)]
    return [((starts, codes), hand, row) for starts, codes, hand, row in found]


def odd_schemes():
    """Of another kind than a pair."""
    return [(), ((0,),), (*FLAG_TWO, ()), list(FLAG_TWO), None, 0, "things"]
