"""Schemes that are made of choices, so that hands agree.

The hands are split into the two teams of a choice, and each team of several hands by a choice of its own, until all
are single. Each split, a join, has one thing. A hand goes through its joins, the inner ones first: by each it comes
to hold the word of the team that was first there, which is one word, as that team agreed on it further in.
"""

from whofirst.errors import NoScheme
from whofirst.levels import first_choice, greatest, tells_by
from whofirst.schemes import END
from whofirst.tables import look_table
from whofirst.teams import LEAST_HANDS, hands_of, look_many, seen, team_of


def joins_of(table, low, many, slot, holds):
    """The joins (slot, low, choice) of so many hands from `low` on, the inner ones first."""
    if many == 1:
        return []
    choice = first_choice(table, many, holds)
    few = len(choice[1])
    inner = joins_of(table, low, few, slot + 1, holds)
    inner.extend(joins_of(table, low + few, many - few, slot + 1, holds))
    return inner + [(slot, low, choice)]


def rivals_of(join, hand):
    """The hands of the other team of a hand's join."""
    slot, low, choice = join
    team = team_of(choice, hand - low)
    return [low + one for one in range(hands_of(choice)) if team_of(choice, one) != team]


def operation_of(join, hand):
    """The operation of a hand at its join."""
    slot, low, choice = join
    return (choice[1] + choice[2])[hand - low]


def take_rows(join, hand, behind):
    """The rows ahead of row `behind` by which a hand takes the word of the other team, of whom one has posted it."""
    return [("take", rival, join[0], behind) for rival in rivals_of(join, hand)]


def goals_of(join, hand, behind):
    """The rows where a hand goes on if team 0, or team 1, was first; its takes stand ahead of row `behind`."""
    slot, low, choice = join
    takes = behind - len(rivals_of(join, hand))
    return (behind, takes) if team_of(choice, hand - low) == 0 else (takes, behind)


def look_row(thing, teams, goals):
    """The row that looks at a thing; a dict tells for each stand the team that was first."""
    return ("look", thing, tuple([(stand, goals[teams[stand]]) for stand in teams]))


def code_of(table, joins, hand, part):
    """The code of a hand, which has a part for each of its joins."""
    code = []
    for thing, join in enumerate(joins):
        slot, low, choice = join
        if low <= hand and hand < low + hands_of(choice):
            code.extend(part(table, thing, join, hand, len(code)))
    return (*code, END)


def scheme_by(table, many, holds, part):
    """The scheme for so many hands by choices that hold, with such parts; BadTable, BadMany, NoScheme."""
    look_table(table)
    look_many(many, LEAST_HANDS)
    known = greatest(table, many, holds)
    if known < many:
        raise NoScheme(known)
    joins = joins_of(table, 0, many, 0, holds)
    starts = tuple([choice[0] for slot, low, choice in joins])
    return (starts, tuple([code_of(table, joins, hand, part) for hand in range(many)]))


def sights_of(table, join, hand):
    """For each answer that a hand may be given a dict, for each stand that it may see then, of the first team."""
    slot, low, choice = join
    sights = {}
    for answer, stand, team in seen(table, choice, hand - low):
        if answer not in sights:
            sights[answer] = {}
        sights[answer][stand] = team
    return sights


def deciding_rows(table, thing, join, hand, at):
    """The rows of a hand, from `at` on, that do its operation and come to hold the first team's word."""
    sights = sights_of(table, join, hand)
    # A look is needed only where the answer leaves open which team was first.
    unsure = [answer for answer in sights if len(set(list(sights[answer].values()))) > 1]
    behind = at + 1 + len(unsure) + len(rivals_of(join, hand))
    goals = goals_of(join, hand, behind)
    ways = []
    for answer in sights:
        if answer in unsure:
            ways.append((answer, at + 1 + unsure.index(answer)))
        else:
            ways.append((answer, goals[max(list(sights[answer].values()))]))
    looks = [look_row(thing, sights[answer], goals) for answer in unsure]
    return [("do", thing, operation_of(join, hand), tuple(ways))] + looks + take_rows(join, hand, behind)


def telling_part(table, thing, join, hand, at):
    """The rows of a hand, from `at` on, at a join whose choice tells."""
    return [("post", join[0])] + deciding_rows(table, thing, join, hand, at + 1)


def made(table, many):
    """A scheme for so many hands that agrees."""
    return scheme_by(table, many, tells_by, telling_part)
