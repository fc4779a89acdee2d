"""The document's points on tables and choices once more, word by word and slowly, to test the program against."""

from itertools import permutations, product


def walk(table, stand, operations):
    answers = []
    for operation in operations:
        answer, stand = table[operation][stand]
        answers.append(answer)
    return answers, stand


def orders(many):
    return [order for length in range(1, many + 1) for order in sorted(permutations(range(many), length))]


def sees(table, choice, order, hand):
    start, ones, others = choice
    operations = ones + others
    answers, last = walk(table, start, [operations[one] for one in order])
    return answers[order.index(hand)], last


def last_stand(table, choice, order):
    return sees(table, choice, order, order[0])[1]


def begun_by(choice, order):
    return 0 if order[0] < len(choice[1]) else 1


def unlike_pairs(choice):
    all_orders = orders(len(choice[1]) + len(choice[2]))
    for first in all_orders:
        for second in all_orders:
            if begun_by(choice, first) == 0 and begun_by(choice, second) == 1:
                yield first, second


def clashes(table, choice):
    found = []
    for first, second in unlike_pairs(choice):
        for hand in sorted(set(first) & set(second)):
            if sees(table, choice, first, hand) == sees(table, choice, second, hand):
                found.append((hand, first, second))
    return found


def tells(table, choice):
    return not clashes(table, choice)


def marks(table, choice):
    for first, second in unlike_pairs(choice):
        if last_stand(table, choice, first) == last_stand(table, choice, second):
            return False
    return True


def keeps(table, choice):
    every_order = orders(len(choice[1]) + len(choice[2]))
    return marks(table, choice) and choice[0] not in [last_stand(table, choice, order) for order in every_order]


def every_choice(table, many):
    """All choices for so many hands, whether alike or not."""
    for start in range(len(table[0])):
        for few in range(1, many):
            for operations in product(range(len(table)), repeat=many):
                yield start, operations[:few], operations[few:]


def choices(table, many):
    found = []
    for start, ones, others in every_choice(table, many):
        if list(ones) != sorted(ones) or list(others) != sorted(others) or len(ones) > len(others):
            continue
        if len(ones) == len(others) and ones > others:
            continue
        found.append((start, ones, others))
    return sorted(found)


def seen(table, choice, hand):
    found = set()
    for order in orders(len(choice[1]) + len(choice[2])):
        if hand in order:
            answer, last = sees(table, choice, order, hand)
            found.add((answer, last, begun_by(choice, order)))
    return sorted(found)


def greatest(table, holds):
    """By all choices, not only by those up to likeness, and by all counts."""
    return max([1] + [many for many in (2, 3, 4) if any(holds(table, one) for one in every_choice(table, many))])
