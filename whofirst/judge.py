"""Whether a scheme agrees, shown by a weaving or by all its wholes, and what is read off it."""

from whofirst.errors import BadMany, TooWide
from whofirst.kinds import is_below, is_number
from whofirst.schemes import end_words, first_whole, has_ended, look_scheme, stepped

MOST_WHOLES = 5000


def look_most(most):
    """Refuse a number of wholes that is too small or too great."""
    if not is_number(most) or most < 1 or most > MOST_WHOLES:
        raise BadMany()


def spread(first, onward, most):
    """All that can be come to from the first one, the nearest ones first.

    `onward` tells of each the pairs of a move and what comes of it. Each one's value is the pair of what it
    came of and the move, None for the first.
    """
    came = {first: None}
    near = [first]
    while len(near) > 0:
        far = []
        for here in near:
            for move, there in onward(here):
                if there not in came:
                    came[there] = (here, move)
                    far.append(there)
            if len(came) > most:
                raise TooWide(most)
        near = far
    return came


def moves_to(came, last):
    """The moves by which one was come to from the first, as spread tells."""
    moves = []
    while came[last] is not None:
        last, move = came[last]
        moves.append(move)
    return moves[::-1]


def moves_to_first(came, is_sought):
    """The moves to the nearest one that is sought, or None."""
    for here in came:
        if is_sought(here):
            return moves_to(came, here)
    return None


def steps_from(table, scheme, whole, still=()):
    """The pairs of a hand that has not ended, and is not still, and the whole behind its step."""
    hands = [hand for hand in range(len(scheme[1])) if hand not in still and not has_ended(scheme, whole, hand)]
    return [(hand, stepped(table, scheme, whole, hand)) for hand in hands]


def is_unlike(scheme, whole):
    """Whether two hands have ended with unlike words."""
    return len(end_words(scheme, whole)) > 1


def wholes_from(table, scheme, first, most, still=()):
    """All wholes that can be come to from one while some hands are still, as spread tells; BadMany, TooWide."""
    look_most(most)
    return spread(first, lambda whole: steps_from(table, scheme, whole, still), most)


def words_of(scheme, came):
    """The words with which some hand has ended in one of these wholes, rising."""
    return sorted(set([word for whole in came for word in end_words(scheme, whole)]))


def all_wholes(table, scheme, most):
    """All wholes of a scheme, as spread tells."""
    look_scheme(table, scheme)
    return wholes_from(table, scheme, first_whole(scheme), most)


def wholes(table, scheme, *, most=MOST_WHOLES):
    """How many wholes can be come to."""
    return len(all_wholes(table, scheme, most))


def broken(table, scheme, *, most=MOST_WHOLES):
    """A shortest weaving behind which two have ended with unlike words, or None."""
    came = all_wholes(table, scheme, most)
    return moves_to_first(came, lambda whole: is_unlike(scheme, whole))


def may_step(scheme, whole, hand):
    """Whether this is a hand that has not ended."""
    return is_below(hand, len(scheme[1])) and not has_ended(scheme, whole, hand)


def weaving_holds(table, scheme, weaving):
    """Whether a list of numbers is a weaving behind which two have ended with unlike words."""
    look_scheme(table, scheme)
    whole = first_whole(scheme)
    for hand in weaving:
        if not may_step(scheme, whole, hand):
            return False
        whole = stepped(table, scheme, whole, hand)
    return is_unlike(scheme, whole)


def agreeing_wholes(table, scheme, most):
    """All wholes of a scheme that agrees, as spread tells, or None."""
    came = all_wholes(table, scheme, most)
    if any([is_unlike(scheme, whole) for whole in came]):
        return None
    return came


def agree_paper(table, scheme, *, most=MOST_WHOLES):
    """All wholes of a scheme that agrees, or None."""
    came = agreeing_wholes(table, scheme, most)
    return None if came is None else list(came)


def agree_holds(table, scheme, paper):
    """Whether a list of wholes shows that the scheme agrees."""
    look_scheme(table, scheme)
    listed = {whole: True for whole in paper}
    if first_whole(scheme) not in listed:
        return False
    for whole in listed:
        if is_unlike(scheme, whole):
            return False
        if not all([behind in listed for hand, behind in steps_from(table, scheme, whole)]):
            return False
    return True


def can_come(table, scheme, weaving, *, most=MOST_WHOLES):
    """The words with which some hand has ended behind a weaving, or can end later on, rising."""
    look_scheme(table, scheme)
    here = first_whole(scheme)
    for hand in weaving:
        if may_step(scheme, here, hand):
            here = stepped(table, scheme, here, hand)
    return words_of(scheme, wholes_from(table, scheme, here, most))


def all_coming(table, scheme, came):
    """For each of all wholes the words that can come from there on, rising."""
    coming = {}
    # A step leads to rows further on; so, begun with the furthest rows, what is behind a step is known already.
    for whole in sorted(list(came), key=lambda one: sum(one[0]), reverse=True):
        words = end_words(scheme, whole)
        for hand, behind in steps_from(table, scheme, whole):
            words = words + coming[behind]
        coming[whole] = sorted(set(words))
    return coming


def last_open_whole(table, scheme, came):
    """Of a scheme that agrees a last open whole, and the pairs of each hand and the word behind its step."""
    coming = all_coming(table, scheme, came)
    # Alone each hand ends with its own number, so that the first whole is open.
    ahead = [first_whole(scheme)]
    while len(ahead) > 0:
        here = ahead[0]
        ahead = [behind for hand, behind in steps_from(table, scheme, here) if len(coming[behind]) > 1]
    return (here, [(hand, coming[behind][0]) for hand, behind in steps_from(table, scheme, here)])


def last_open(table, scheme, *, most=MOST_WHOLES):
    """A weaving to a last open whole and the pairs of each hand and the word behind its step, or None."""
    came = agreeing_wholes(table, scheme, most)
    if came is None:
        return None
    whole, pairs = last_open_whole(table, scheme, came)
    return (moves_to(came, whole), pairs)


def read_off(table, scheme, *, most=MOST_WHOLES):
    """The choice that a last open whole shows, or None."""
    came = agreeing_wholes(table, scheme, most)
    if came is None:
        return None
    whole, pairs = last_open_whole(table, scheme, came)
    rows = [code[at] for code, at in zip(scheme[1], whole[0])]
    # All are about to do an operation on one thing there, so hand 0's row tells which thing.
    stand = whole[2][rows[0][1]]
    ones = [rows[hand][2] for hand, word in pairs if word == pairs[0][1]]
    others = [rows[hand][2] for hand, word in pairs if word != pairs[0][1]]
    return (stand, tuple(ones), tuple(others))
