"""Schemes: things and the codes of hands, and what a step of a hand does."""

from whofirst.errors import BadScheme
from whofirst.kinds import is_below
from whofirst.tables import look_table
from whofirst.teams import LEAST_HANDS, MOST_HANDS

MOST_THINGS = 6
MOST_ROWS = 60
MOST_WAYS = 10
NUMBERS = 10
SLOTS = 3
END = ("end",)


def is_further(to, at, count):
    """Whether `to` is a row further on than `at` in a code of so many rows."""
    return is_below(to, count) and to > at


def way_fits(way, at, count):
    """Whether a way may stand in row `at` of a code of so many rows."""
    if not isinstance(way, tuple) or len(way) != 2:
        return False
    return is_below(way[0], NUMBERS) and is_further(way[1], at, count)


def ways_fit(ways, at, count):
    """Whether these are the ways of row `at` of a code of so many rows."""
    if not isinstance(ways, tuple) or len(ways) > MOST_WAYS:
        return False
    if not all([way_fits(way, at, count) for way in ways]):
        return False
    return len(set([number for number, to in ways])) == len(ways)


def row_is_right(table, scheme, hand, at):
    """Whether a row of a hand's code is right; starts and the count of rows are looked at already."""
    starts, codes = scheme
    row = codes[hand][at]
    count = len(codes[hand])
    if not isinstance(row, tuple) or len(row) == 0:
        return False
    if row[0] == "post":
        return len(row) == 2 and is_below(row[1], SLOTS)
    if row[0] == "take":
        if len(row) != 4 or not is_below(row[1], len(codes)) or not is_below(row[2], SLOTS):
            return False
        return is_further(row[3], at, count)
    if row[0] == "do":
        if len(row) != 4 or not is_below(row[1], len(starts)) or not is_below(row[2], len(table)):
            return False
        return ways_fit(row[3], at, count)
    if row[0] == "look":
        return len(row) == 3 and is_below(row[1], len(starts)) and ways_fit(row[2], at, count)
    return row == END


def wrong_row(table, scheme, hand):
    """Where a hand's code is wrong: -1 for its count of rows or its last row, a row, or None."""
    code = scheme[1][hand]
    if not isinstance(code, tuple) or len(code) == 0 or len(code) > MOST_ROWS or code[-1] != END:
        return -1
    for at in range(len(code)):
        if not row_is_right(table, scheme, hand, at):
            return at
    return None


def frame_fits(table, scheme):
    """Whether the starts and the count of codes are right."""
    if not isinstance(scheme, tuple) or len(scheme) != 2:
        return False
    starts, codes = scheme
    if not isinstance(starts, tuple) or len(starts) > MOST_THINGS:
        return False
    if not all([is_below(start, len(table[0])) for start in starts]):
        return False
    return isinstance(codes, tuple) and LEAST_HANDS <= len(codes) and len(codes) <= MOST_HANDS


def look_scheme(table, scheme):
    """Refuse what is no table, then what is no scheme of it."""
    look_table(table)
    if not frame_fits(table, scheme):
        raise BadScheme(-1, -1)
    for hand in range(len(scheme[1])):
        at = wrong_row(table, scheme, hand)
        if at is not None:
            raise BadScheme(hand, at)


def rows_behind(row, at):
    """The rows that may be next behind a row that is no end row."""
    if row[0] == "post":
        return [at + 1]
    if row[0] == "take":
        return [at + 1, row[3]]
    return [at + 1] + [to for number, to in row[-1]]


def most_steps(code):
    """The most steps that a hand may take by a right code."""
    steps = [0] * len(code)
    # What is next is further on, so that going backwards it is known already.
    for at in reversed(range(len(code))):
        if code[at] != END:
            steps[at] = 1 + max([steps[to] for to in rows_behind(code[at], at)])
    return steps[0]


def first_whole(scheme):
    """The whole behind no step: rows, words, stands and slots."""
    starts, codes = scheme
    many = len(codes)
    return ((0,) * many, tuple(range(many)), starts, ((None,) * SLOTS,) * many)


def has_ended(scheme, whole, hand):
    """Whether a hand has ended in a whole."""
    return scheme[1][hand][whole[0][hand]] == END


def end_words(scheme, whole):
    """The words with which hands have ended in a whole, rising."""
    hands = [hand for hand in range(len(scheme[1])) if has_ended(scheme, whole, hand)]
    return sorted(set([whole[1][hand] for hand in hands]))


def put(things, at, thing):
    """The tuple with another thing at a place."""
    return things[:at] + (thing,) + things[at + 1:]


def way_of(ways, number, behind):
    """The row that is told for a number, or the row behind."""
    for known, to in ways:
        if known == number:
            return to
    return behind


def stepped(table, scheme, whole, hand):
    """The whole behind a step of a hand that has not ended."""
    rows, words, stands, slots = whole
    at = rows[hand]
    row = scheme[1][hand][at]
    to = at + 1
    if row[0] == "post":
        slots = put(slots, hand, put(slots[hand], row[1], words[hand]))
    elif row[0] == "take":
        held = slots[row[1]][row[2]]
        if held is not None:
            words = put(words, hand, held)
            to = row[3]
    elif row[0] == "do":
        answer, onward = table[row[2]][stands[row[1]]]
        stands = put(stands, row[1], onward)
        to = way_of(row[3], answer, to)
    else:
        to = way_of(row[2], stands[row[1]], to)
    return (put(rows, hand, to), words, stands, slots)
