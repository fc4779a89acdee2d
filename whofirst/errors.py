"""The errors by which the program refuses what it is handed."""


class HandError(ValueError):
    """What is handed in, or asked for, is refused."""

    def __init__(self, word="HandError", why="refused"):
        ValueError.__init__(self, f"{word}: {why}")
        self.word = word


class BadTable(HandError):
    """No table; `at` is the number of its first wrong operation."""

    def __init__(self, at):
        HandError.__init__(self, "BadTable", f"operation {at} is wrong")
        self.at = at


class BadText(HandError):
    """No text of a table."""

    def __init__(self, at):
        HandError.__init__(self, "BadText", f"wrong from sign {at} on")
        self.at = at


class BadChoice(HandError):
    """No choice of the table."""

    def __init__(self):
        HandError.__init__(self, "BadChoice", "no choice of this table")


class BadOrder(HandError):
    """No order of the hands of a choice."""

    def __init__(self):
        HandError.__init__(self, "BadOrder", "no order of these hands")


class BadMany(HandError):
    """A count beyond what is told for it."""

    def __init__(self):
        HandError.__init__(self, "BadMany", "the count is too small or too great")


class BadScheme(HandError):
    """No scheme of the table; `hand` and `row` tell where it is wrong first."""

    def __init__(self, hand, row):
        HandError.__init__(self, "BadScheme", f"wrong at hand {hand}, row {row}")
        self.hand = hand
        self.row = row


class BadWishes(HandError):
    """No wishes for the hands of a scheme."""

    def __init__(self):
        HandError.__init__(self, "BadWishes", "no wishes for these hands")


class BadTurn(HandError):
    """Not all the stands' numbers, each once."""

    def __init__(self):
        HandError.__init__(self, "BadTurn", "not each stand once")


class Full(HandError):
    """A table would become too great."""

    def __init__(self):
        HandError.__init__(self, "Full", "too many stands or operations")


class TooWide(HandError):
    """More can be come to than `most`."""

    def __init__(self, most):
        HandError.__init__(self, "TooWide", f"more than {most}")
        self.most = most


class NoScheme(HandError):
    """No scheme can be made for so many hands; `level` tells for how many."""

    def __init__(self, level):
        HandError.__init__(self, "NoScheme", f"the level is {level}")
        self.level = level


class Ended(HandError):
    """The hand has ended."""

    def __init__(self):
        HandError.__init__(self, "Ended", "the hand has ended")


class Still(HandError):
    """The hand has stopped."""

    def __init__(self):
        HandError.__init__(self, "Still", "the hand has stopped")


class Busy(HandError):
    """The hand has asked and was not answered yet."""

    def __init__(self):
        HandError.__init__(self, "Busy", "the hand was not answered yet")


class Idle(HandError):
    """The hand has asked nothing."""

    def __init__(self):
        HandError.__init__(self, "Idle", "the hand has asked nothing")


class Undone(HandError):
    """A row of deeds was not done; `at` is the number of the refused one."""

    def __init__(self, at):
        HandError.__init__(self, "Undone", f"deed {at} is refused")
        self.at = at


class Missing(LookupError):
    """What is named by its number is not there."""

    def __init__(self, word="Missing", why="not there"):
        LookupError.__init__(self, f"{word}: {why}")
        self.word = word


class NoStand(Missing):
    """The table has no such stand."""

    def __init__(self):
        Missing.__init__(self, "NoStand", "no such stand")


class NoOperation(Missing):
    """The table has no such operation."""

    def __init__(self):
        Missing.__init__(self, "NoOperation", "no such operation")


class NoHand(Missing):
    """There is no such hand."""

    def __init__(self):
        Missing.__init__(self, "NoHand", "no such hand")


class NothingLeft(IndexError):
    """Nothing can be taken back, or be done again."""

    def __init__(self):
        IndexError.__init__(self, "NothingLeft: nothing is left")
        self.word = "NothingLeft"
