"""Hands that come back with nothing remembered, and schemes by which they agree again."""

from whofirst.judge import MOST_WHOLES, look_most, may_step, moves_to_first, spread
from whofirst.kinds import is_below
from whofirst.levels import first_choice, greatest
from whofirst.makers import deciding_rows, goals_of, look_row, scheme_by
from whofirst.schemes import end_words, first_whole, look_scheme, put, stepped
from whofirst.teams import MOST_HANDS, all_orders, hands_of, look_choice, marks_by, team_of, weave

WORDS = ("step", "again")


def keeps_by(table, choice, ways):
    """Whether the choice keeps, by these orders."""
    if any([weave(table, choice, order)[1] == choice[0] for order in ways]):
        return False
    return marks_by(table, choice, ways)


def keeps(table, choice):
    """Whether the choice keeps."""
    look_choice(table, choice)
    return keeps_by(table, choice, all_orders(hands_of(choice)))


def keeping(table, many):
    """The first choice for so many hands that keeps, or None."""
    return first_choice(table, many, keeps_by)


def keep_level(table, *, most=MOST_HANDS):
    """The keep level of a table, or most where it is greater."""
    return greatest(table, most, keeps_by)


def first_teams(table, choice):
    """For each stand that comes last by an order the team that begins it, of a choice that marks."""
    ways = all_orders(hands_of(choice))
    return {weave(table, choice, order)[1]: team_of(choice, order[0]) for order in ways}


def keeping_part(table, thing, join, hand, at):
    """The rows of a hand, from `at` on, at a join whose choice keeps."""
    slot, low, choice = join
    deciding = deciding_rows(table, thing, join, hand, at + 2)
    goals = goals_of(join, hand, at + 2 + len(deciding))
    # The start leads to the do, and never comes again; so a hand that comes back does no operation twice.
    return [("post", slot), look_row(thing, first_teams(table, choice), goals)] + deciding


def made_again(table, many):
    """A scheme for so many hands that agrees again."""
    return scheme_by(table, many, keeps_by, keeping_part)


def with_words(scheme, whole, words):
    """The pair of a whole and, rising, the words with which hands have ended there or, `words`, ahead of it."""
    return (whole, tuple(sorted(set(words + end_words(scheme, whole)))))


def returned(whole, hand):
    """The whole behind a hand's coming back."""
    rows, words, stands, slots = whole
    return (put(rows, hand, 0), put(words, hand, hand), stands, slots)


def may_move(scheme, whole, move):
    """Whether a pair of a word and a number is a move that may be done."""
    word, hand = move
    if word == "again":
        return is_below(hand, len(scheme[1]))
    return word == "step" and may_step(scheme, whole, hand)


def moved(table, scheme, pair, move):
    """The pair behind a move that may be done."""
    whole, words = pair
    word, hand = move
    behind = stepped(table, scheme, whole, hand) if word == "step" else returned(whole, hand)
    return with_words(scheme, behind, list(words))


def moves_from(table, scheme, pair):
    """The pairs of a move and what is behind it, none where words are unlike already."""
    if len(pair[1]) > 1:
        return []
    moves = [(word, hand) for word in WORDS for hand in range(len(scheme[1]))]
    return [(move, moved(table, scheme, pair, move)) for move in moves if may_move(scheme, pair[0], move)]


def broken_again(table, scheme, *, most=MOST_WHOLES):
    """A shortest list of moves behind which words are unlike, or None."""
    look_scheme(table, scheme)
    look_most(most)
    first = with_words(scheme, first_whole(scheme), [])
    came = spread(first, lambda pair: moves_from(table, scheme, pair), most)
    return moves_to_first(came, lambda pair: len(pair[1]) > 1)


def again_holds(table, scheme, moves):
    """Whether a list of pairs (a word, a number) is moves behind which words are unlike."""
    look_scheme(table, scheme)
    pair = with_words(scheme, first_whole(scheme), [])
    for move in moves:
        if not may_move(scheme, pair[0], move):
            return False
        pair = moved(table, scheme, pair, move)
    return len(pair[1]) > 1
