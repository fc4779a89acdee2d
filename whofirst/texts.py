"""The texts of choices and schemes."""

from whofirst.schemes import look_scheme
from whofirst.teams import look_choice


def team_text(team):
    """The operations of a team."""
    return ",".join([f"{operation}" for operation in team])


def choice_text(table, choice):
    """A choice as a text."""
    look_choice(table, choice)
    start, ones, others = choice
    return f"{start} {team_text(ones)}|{team_text(others)}"


def part_texts(part):
    """What a part of a row is in its text: a word, a number, or ways, which are nothing where there are none."""
    if not isinstance(part, tuple):
        return [f"{part}"]
    if len(part) == 0:
        return []
    return [",".join([f"{number}>{to}" for number, to in part])]


def row_text(row):
    """A row of words, numbers and ways, with a line feed behind it."""
    return " ".join([text for part in row for text in part_texts(part)]) + "\n"


def scheme_text(table, scheme):
    """A scheme as a text."""
    look_scheme(table, scheme)
    starts, codes = scheme
    rows = [("things", *starts)]
    for hand, code in enumerate(codes):
        rows.extend([("hand", hand), *code])
    return "".join([row_text(row) for row in rows])
