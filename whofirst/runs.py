"""Runs: hands of a scheme that step and stop by deeds, which can be taken back and done again."""

from whofirst.errors import BadWishes, Ended, NoHand, NothingLeft, Still, Undone
from whofirst.judge import MOST_WHOLES, wholes_from, words_of
from whofirst.kinds import is_below
from whofirst.schemes import first_whole, has_ended, look_scheme, stepped

WISHES = ("a", "b", "c", "d")
LETTERS = "abcdefghijklmnopqrstuvwxyz"
LONGEST_WISH = 8


def is_wish(text):
    """Whether this is a text that a hand may wish."""
    if not isinstance(text, str) or len(text) == 0 or len(text) > LONGEST_WISH:
        return False
    return all([sign in LETTERS for sign in text])


def look_wishes(wishes, many):
    """Refuse what are no wishes for so many hands."""
    if not isinstance(wishes, tuple) or len(wishes) < many or not all([is_wish(text) for text in wishes]):
        raise BadWishes()


def all_done(run, rows):
    """What each deed of a row of deeds tells; Undone at the first that is refused."""
    told = []
    for at, row in enumerate(rows):
        try:
            answer = run.deed(row)
        except (NoHand, Ended, Still) as refusal:
            raise Undone(at) from refusal
        told.append(answer)
    return told


class Run:
    """Hands that go by a scheme, each with its wish, and the deeds that led to where they stand."""

    def __init__(self, table, scheme, *, wishes=WISHES):
        look_scheme(table, scheme)
        look_wishes(wishes, len(scheme[1]))
        self.table = table
        self.scheme = scheme
        self.wishes = wishes
        self.going = False
        self.deeds = []
        # The pairs of a whole and the hands that have stopped: at first, and behind each deed that stands.
        self.states = [(first_whole(scheme), ())]
        # What was taken back, the last one last: the pairs of a deed and the state behind it.
        self.undone = []

    def look_hand(self, hand):
        """Refuse what is no hand, or one that steps no more."""
        whole, still = self.states[-1]
        if not is_below(hand, len(self.scheme[1])):
            raise NoHand()
        if has_ended(self.scheme, whole, hand):
            raise Ended()
        if hand in still:
            raise Still()

    def add_deed(self, deed, state):
        """A deed is done, and leads to a state; what was taken back ahead of it is gone."""
        self.deeds.append(deed)
        self.states.append(state)
        self.undone = []

    def step(self, hand):
        """A hand does its row, which is told."""
        self.look_hand(hand)
        whole, still = self.states[-1]
        row = self.scheme[1][hand][whole[0][hand]]
        self.add_deed(("step", hand), (stepped(self.table, self.scheme, whole, hand), still))
        return row

    def stop(self, hand):
        """A hand stops for ever."""
        self.look_hand(hand)
        whole, still = self.states[-1]
        self.add_deed(("stop", hand), (whole, tuple(sorted([*still, hand]))))

    def deed(self, row):
        """Do a deed by its tuple; what the method tells."""
        word, hand = row
        if word == "step":
            return self.step(hand)
        return self.stop(hand)

    def go(self, rows):
        """Do a row of deeds, all or none; the list of what each tells."""
        ahead = self.twin()
        self.going = True
        try:
            return all_done(self, rows)
        except Undone:
            self.stand_as(ahead)
            raise
        finally:
            self.going = False

    def finish(self, hands):
        """Each hand of a list steps on until it has ended; how many steps."""
        for hand in hands:
            self.look_hand(hand)
        ahead = len(self.deeds)
        for hand in hands:
            while not has_ended(self.scheme, self.states[-1][0], hand):
                self.step(hand)
        return len(self.deeds) - ahead

    def busy(self):
        """Whether a row of deeds is being done."""
        return self.going

    def back(self):
        """Take back the last deed that stands, which is told."""
        if len(self.deeds) == 0:
            raise NothingLeft()
        deed = self.deeds.pop()
        self.undone.append((deed, self.states.pop()))
        return deed

    def again(self):
        """Do again what was taken back last; the deed."""
        if len(self.undone) == 0:
            raise NothingLeft()
        deed, state = self.undone.pop()
        self.deeds.append(deed)
        self.states.append(state)
        return deed

    def places(self):
        """The row where each hand is."""
        return list(self.states[-1][0][0])

    def stands(self):
        """The stand of each thing."""
        return list(self.states[-1][0][2])

    def words(self):
        """The wish that each hand holds."""
        return [self.wishes[word] for word in self.states[-1][0][1]]

    def slots(self):
        """For each hand the wishes in its slots, None where there is nothing."""
        every = self.states[-1][0][3]
        return [[None if word is None else self.wishes[word] for word in own] for own in every]

    def ended(self):
        """The pairs of each hand that has ended and the wish that it holds, rising."""
        whole = self.states[-1][0]
        return [(hand, wish) for hand, wish in enumerate(self.words()) if has_ended(self.scheme, whole, hand)]

    def stopped(self):
        """The hands that have stopped, rising."""
        return list(self.states[-1][1])

    def log(self):
        """The deeds that stand."""
        return list(self.deeds)

    def left(self, *, most=MOST_WHOLES):
        """The wishes with which some hand has ended, or can end by steps of hands that haven't stopped."""
        whole, still = self.states[-1]
        came = wholes_from(self.table, self.scheme, whole, most, still)
        return [self.wishes[word] for word in words_of(self.scheme, came)]

    def stand_as(self, other):
        """Stand as another run of the same table, scheme and wishes does."""
        self.deeds = list(other.deeds)
        self.states = list(other.states)
        self.undone = list(other.undone)

    def twin(self):
        """A run of its own that stands as this one does."""
        other = Run(self.table, self.scheme, wishes=self.wishes)
        other.stand_as(self)
        return other

    def __len__(self):
        return len(self.deeds)

    def __eq__(self, other):
        if not isinstance(other, Run):
            return False
        if self.table != other.table or self.scheme != other.scheme or self.wishes != other.wishes:
            return False
        return self.deeds == other.deeds
