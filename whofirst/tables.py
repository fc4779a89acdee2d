"""Tables, by which things answer and turn."""

from whofirst.errors import BadTable, BadText, BadTurn, Full, NoOperation, NoStand
from whofirst.kinds import is_below, is_number

MOST_STANDS = 5
MOST_OPERATIONS = 4
FIGURES = "0123456789"


def row_fits(row, many):
    """Whether a row may stand in a table of so many stands."""
    if not isinstance(row, tuple) or len(row) != 2:
        return False
    return is_below(row[0], len(FIGURES)) and is_below(row[1], many)


def operation_fits(rows, many):
    """Whether rows are an operation of a table of so many stands."""
    if not isinstance(rows, tuple) or len(rows) != many:
        return False
    return all([row_fits(row, many) for row in rows])


def first_wrong(table):
    """The number of the first wrong operation (0 where there is none at all), or None for a table."""
    if not isinstance(table, tuple) or len(table) == 0:
        return 0
    if not isinstance(table[0], tuple) or len(table[0]) == 0 or len(table[0]) > MOST_STANDS:
        return 0
    for at, rows in enumerate(table):
        if at >= MOST_OPERATIONS or not operation_fits(rows, len(table[0])):
            return at
    return None


def look_table(table):
    """Refuse what is no table."""
    at = first_wrong(table)
    if at is not None:
        raise BadTable(at)


def look_stand(table, stand):
    """Refuse what is no stand of a right table."""
    if not is_below(stand, len(table[0])):
        raise NoStand()


def look_operation(table, operation):
    """Refuse what is no operation of a right table."""
    if not is_below(operation, len(table)):
        raise NoOperation()


def stands_of(table):
    """How many stands a table has."""
    look_table(table)
    return len(table[0])


def done(table, stand, operation):
    """The answer and the next stand of an operation that is done in a stand."""
    look_table(table)
    look_stand(table, stand)
    look_operation(table, operation)
    return table[operation][stand]


def walk(table, stand, operations):
    """The list of answers and the last stand; all is looked at already."""
    answers = []
    for operation in operations:
        answer, stand = table[operation][stand]
        answers.append(answer)
    return (answers, stand)


def gone(table, stand, operations):
    """The list of answers and the last stand of operations that are done behind one another."""
    look_table(table)
    look_stand(table, stand)
    for operation in operations:
        look_operation(table, operation)
    return walk(table, stand, operations)


def reached(table, stand):
    """The stands to which some row of operations leads, rising."""
    look_table(table)
    look_stand(table, stand)
    found = {stand: True}
    waiting = [stand]
    while len(waiting) > 0:
        here = waiting.pop()
        for rows in table:
            onward = rows[here][1]
            if onward not in found:
                found[onward] = True
                waiting.append(onward)
    return sorted(found)


def rows_text(rows):
    """An operation as a text."""
    return " ".join([f"{answer}:{onward}" for answer, onward in rows])


def table_text(table):
    """A table as a text."""
    look_table(table)
    return ";".join([rows_text(rows) for rows in table])


def row_of(text):
    """The row that a text tells, or what is no row of any table."""
    # Both numbers of a row are below ten, so that each is one figure.
    if len(text) != 3 or text[1] != ":":
        return ()
    return (FIGURES.find(text[0]), FIGURES.find(text[2]))


def rows_of(text):
    """The operation that a text tells, perhaps with wrong rows."""
    return tuple([row_of(part) for part in text.split(" ")])


def table_of(text):
    """The table that a text tells."""
    table = tuple([rows_of(part) for part in text.split(";")])
    if first_wrong(table) is not None:
        raise BadText(0)
    return table


def with_operation(table, rows):
    """The table with an operation more behind all."""
    look_table(table)
    if len(table) == MOST_OPERATIONS:
        raise Full()
    if not operation_fits(rows, len(table[0])):
        raise BadTable(len(table))
    return (*table, rows)


def without(table, operation):
    """The table without one of its operations."""
    look_table(table)
    look_operation(table, operation)
    if len(table) == 1:
        raise BadTable(0)
    return table[:operation] + table[operation + 1:]


def with_row(table, operation, stand, row):
    """The table with another row of an operation for a stand."""
    look_table(table)
    look_stand(table, stand)
    look_operation(table, operation)
    if not row_fits(row, len(table[0])):
        raise BadTable(operation)
    rows = table[operation]
    changed = rows[:stand] + (row,) + rows[stand + 1:]
    return table[:operation] + (changed,) + table[operation + 1:]


def is_turn(stands, many):
    """Whether these are all numbers of so many stands, each once."""
    if not isinstance(stands, tuple) or not all([is_number(stand) for stand in stands]):
        return False
    return sorted(stands) == list(range(many))


def turned_rows(rows, stands):
    """An operation whose stand k is called stands[k]."""
    placed = list(rows)
    for stand, (answer, onward) in enumerate(rows):
        placed[stands[stand]] = (answer, stands[onward])
    return tuple(placed)


def turned(table, stands):
    """The table whose stand k is called stands[k]."""
    look_table(table)
    if not is_turn(stands, len(table[0])):
        raise BadTurn()
    return tuple([turned_rows(rows, stands) for rows in table])


def beside(one, other):
    """Two tables as one, whose stands are the pairs of their stands."""
    look_table(one)
    look_table(other)
    slow = len(one[0])
    fast = len(other[0])
    if slow * fast > MOST_STANDS or len(one) + len(other) > MOST_OPERATIONS:
        raise Full()
    first = [
        tuple([(answer, onward * fast + b) for answer, onward in rows for b in range(fast)])
        for rows in one
    ]
    second = [
        tuple([(answer, a * fast + onward) for a in range(slow) for answer, onward in rows])
        for rows in other
    ]
    return tuple(first + second)
