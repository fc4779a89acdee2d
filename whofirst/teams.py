"""Choices of a table, and what their hands see by orders."""

from whofirst.errors import BadChoice, BadMany, BadOrder, NoHand
from whofirst.kinds import is_below, is_number
from whofirst.tables import look_table, walk

MOST_HANDS = 4
LEAST_HANDS = 2


def look_many(many, least):
    """Refuse a count of hands that is less than told, or too great."""
    if not is_number(many) or many < least or many > MOST_HANDS:
        raise BadMany()


def is_team(table, team):
    """Whether these are the operations of one hand or more."""
    if not isinstance(team, tuple) or len(team) == 0:
        return False
    return all([is_below(operation, len(table)) for operation in team])


def is_choice(table, choice):
    """Whether this is a choice of a right table."""
    if not isinstance(choice, tuple) or len(choice) != 3:
        return False
    start, ones, others = choice
    if not is_below(start, len(table[0])) or not is_team(table, ones) or not is_team(table, others):
        return False
    return len(ones) + len(others) <= MOST_HANDS


def look_choice(table, choice):
    """Refuse what is no table, then what is no choice of it."""
    look_table(table)
    if not is_choice(table, choice):
        raise BadChoice()


def hands_of(choice):
    """How many hands a right choice tells of."""
    return len(choice[1]) + len(choice[2])


def team_of(choice, hand):
    """The team of a hand."""
    return 0 if hand < len(choice[1]) else 1


def is_order(many, order):
    """Whether this is an order of so many hands."""
    if not isinstance(order, tuple) or len(order) == 0:
        return False
    if not all([is_below(hand, many) for hand in order]):
        return False
    return len(set(order)) == len(order)


def all_orders(many):
    """All orders of so many hands, the shorter ones first, else rising."""
    told = []
    longest = [()]
    for length in range(many):
        longest = [(*order, hand) for order in longest for hand in range(many) if hand not in order]
        told.extend(longest)
    return told


def weave(table, choice, order):
    """The answers in the order's order and the last stand; all is looked at already."""
    operations = choice[1] + choice[2]
    return walk(table, choice[0], [operations[hand] for hand in order])


def view(table, choice, order, hand):
    """What a hand of the order sees by it: its answer and the last stand."""
    answers, last = weave(table, choice, order)
    return (answers[order.index(hand)], last)


def woven(table, choice, order):
    """The list of answers, in the order's order, and the last stand."""
    look_choice(table, choice)
    if not is_order(hands_of(choice), order):
        raise BadOrder()
    return weave(table, choice, order)


def orders(many):
    """All orders of so many hands, the shorter ones first, else rising."""
    look_many(many, LEAST_HANDS)
    return all_orders(many)


def seen(table, choice, hand):
    """The triples (answer, last stand, team of the first one) of a hand, rising."""
    look_choice(table, choice)
    many = hands_of(choice)
    if not is_below(hand, many):
        raise NoHand()
    triples = {}
    for order in all_orders(many):
        if hand in order:
            answer, last = view(table, choice, order, hand)
            triples[(answer, last, team_of(choice, order[0]))] = True
    return sorted(triples)


def clash_by(table, choice, ways):
    """The first clash that these orders show, or None."""
    met = ({}, {})
    for order in ways:
        team = team_of(choice, order[0])
        answers, last = weave(table, choice, order)
        for hand, answer in zip(order, answers):
            sight = (hand, answer, last)
            met[team].setdefault(sight, order)
            if sight in met[1 - team]:
                return (hand, met[0][sight], met[1][sight])
    return None


def clash(table, choice):
    """A clash of the choice, or None where it tells."""
    look_choice(table, choice)
    return clash_by(table, choice, all_orders(hands_of(choice)))


def is_clash(table, choice, paper):
    """Whether a tuple (hand, order, order) is a clash of a right choice."""
    hand, first, second = paper
    many = hands_of(choice)
    if not is_order(many, first) or not is_order(many, second):
        return False
    if team_of(choice, first[0]) != 0 or team_of(choice, second[0]) != 1:
        return False
    if not is_number(hand) or hand not in first or hand not in second:
        return False
    return view(table, choice, first, hand) == view(table, choice, second, hand)


def clash_holds(table, choice, paper):
    """Whether a tuple (hand, order, order) is a clash of the choice."""
    look_choice(table, choice)
    return is_clash(table, choice, paper)


def marks_by(table, choice, ways):
    """Whether no last stand comes of two of these orders that unlike teams begin."""
    teams = {}
    for order in ways:
        team = team_of(choice, order[0])
        last = weave(table, choice, order)[1]
        if teams.setdefault(last, team) != team:
            return False
    return True


def marks(table, choice):
    """Whether the choice marks."""
    look_choice(table, choice)
    return marks_by(table, choice, all_orders(hands_of(choice)))


def rising(count, length):
    """All rising tuples of so many numbers below the count, alike ones side by side too."""
    rows = [()]
    for step in range(length):
        rows = [(*row, number) for row in rows for number in range(count) if row == () or row[-1] <= number]
    return rows


def team_pairs(count, few, more):
    """The pairs of a smaller and a greater team up to likeness, of so many operations."""
    pairs = [(ones, others) for ones in rising(count, few) for others in rising(count, more)]
    return [(ones, others) for ones, others in pairs if few < more or ones <= others]


def choices(table, many):
    """The choices for so many hands up to likeness, rising."""
    look_table(table)
    look_many(many, LEAST_HANDS)
    pairs = []
    for few in range(1, many // 2 + 1):
        pairs.extend(team_pairs(len(table), few, many - few))
    return sorted([(start, ones, others) for start in range(len(table[0])) for ones, others in pairs])
