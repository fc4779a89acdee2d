"""How many hands a table can tell of, and papers that show it."""

from whofirst.tables import look_table
from whofirst.teams import LEAST_HANDS, MOST_HANDS, all_orders, choices, clash_by, hands_of
from whofirst.teams import is_clash, look_choice, look_many, marks_by


def tells_by(table, choice, ways):
    """Whether these orders show no clash of the choice."""
    return clash_by(table, choice, ways) is None


def first_choice(table, many, holds):
    """The first choice for so many hands for which `holds` does by all orders, or None; BadTable, BadMany."""
    due = choices(table, many)
    ways = all_orders(many)
    for choice in due:
        if holds(table, choice, ways):
            return choice
    return None


def greatest(table, most, holds):
    """The greatest count of hands, up to most, for which a choice is that holds; BadTable, BadMany."""
    look_table(table)
    look_many(most, 1)
    # What holds for so many hands holds for fewer, so the first count without a choice ends the search.
    many = 1
    while many < most and first_choice(table, many + 1, holds) is not None:
        many += 1
    return many


def telling(table, many):
    """The first choice for so many hands that tells, or None."""
    return first_choice(table, many, tells_by)


def level(table, *, most=MOST_HANDS):
    """The level of a table, or most where it is greater."""
    return greatest(table, most, tells_by)


def mark_level(table, *, most=MOST_HANDS):
    """The mark level of a table, or most where it is greater."""
    return greatest(table, most, marks_by)


def paper_of(table, many):
    """A choice for so many hands that tells, or a clash of each choice."""
    told = telling(table, many)
    if told is not None:
        return ("tells", told)
    ways = all_orders(many)
    return ("none", [(choice, clash_by(table, choice, ways)) for choice in choices(table, many)])


def all_clash(table, many, pairs):
    """Whether these are all choices for so many hands, in their order, each with a clash of it."""
    due = choices(table, many)
    if not isinstance(pairs, list) or [choice for choice, shown in pairs] != due:
        return False
    return all([is_clash(table, choice, shown) for choice, shown in pairs])


def paper_holds(table, many, paper):
    """Whether a pair of a word and what it stands for is a paper for so many hands."""
    look_table(table)
    look_many(many, LEAST_HANDS)
    word, body = paper
    if word == "tells":
        look_choice(table, body)
        return hands_of(body) == many and tells_by(table, body, all_orders(many))
    return word == "none" and all_clash(table, many, body)
