"""Runs once more, slowly: only the deeds are kept, and each question goes through all of them anew."""

import slow


class Refused(Exception):
    """The word of the refusal that is due, and its fields."""

    def __init__(self, word, at=None, cause=None):
        super().__init__(word)
        self.word = word
        self.at = at
        self.cause = cause


class SlowRun:
    def __init__(self, table, scheme, wishes=("a", "b", "c", "d")):
        self.table = table
        self.scheme = scheme
        self.wishes = wishes
        self.done = []
        self.taken_back = []

    def world(self):
        world = slow.World(self.table, self.scheme)
        for word, hand in self.done:
            if word == "step":
                world.step(hand)
        return world

    def stopped(self):
        return sorted(hand for word, hand in self.done if word == "stop")

    def refusal(self, hand):
        """The word of the refusal if this hand shall step or stop now, or None."""
        world = self.world()
        if hand not in world.hands():
            return "NoHand"
        if world.ended(hand):
            return "Ended"
        return "Still" if hand in self.stopped() else None

    def deed(self, deed):
        word, hand = deed
        if self.refusal(hand):
            raise Refused(self.refusal(hand))
        world = self.world()
        row = self.scheme[1][hand][world.at[hand]]
        self.done = self.done + [deed]
        self.taken_back = []
        return row if word == "step" else None

    def go(self, deeds):
        kept = self.done, self.taken_back
        told = []
        for at, deed in enumerate(deeds):
            try:
                told.append(self.deed(deed))
            except Refused as refused:
                self.done, self.taken_back = kept
                raise Refused("Undone", at, refused.word)
        return told

    def finish(self, hands):
        for hand in hands:
            if self.refusal(hand):
                raise Refused(self.refusal(hand))
        steps = 0
        for hand in hands:
            while not self.world().ended(hand):
                self.deed(("step", hand))
                steps += 1
        return steps

    def back(self):
        if not self.done:
            raise Refused("NothingLeft")
        self.taken_back = self.taken_back + self.done[-1:]
        self.done = self.done[:-1]
        return self.taken_back[-1]

    def again(self):
        if not self.taken_back:
            raise Refused("NothingLeft")
        self.done = self.done + self.taken_back[-1:]
        self.taken_back = self.taken_back[:-1]
        return self.done[-1]

    def twin(self):
        other = SlowRun(self.table, self.scheme, self.wishes)
        other.done = self.done
        other.taken_back = self.taken_back
        return other

    def wish(self, word):
        return None if word is None else self.wishes[word]

    def worlds(self):
        """All worlds that can be come to by steps of hands that haven't stopped."""
        stopped = self.stopped()
        found = {}
        waiting = [self.world()]
        while waiting:
            here = waiting.pop()
            if here.whole() not in found:
                found[here.whole()] = here
                waiting += [slow.behind(here, hand) for hand in here.going() if hand not in stopped]
        return found

    def left(self):
        words = {word for world in self.worlds().values() for word in world.end_words()}
        return [self.wishes[word] for word in sorted(words)]

    def questions(self):
        """What the questions of a run are due to tell, but for `left`."""
        world = self.world()
        return {
            "places": world.at,
            "stands": world.things,
            "words": [self.wish(word) for word in world.holds],
            "slots": [[self.wish(word) for word in three] for three in world.slots],
            "ended": [(hand, self.wish(world.holds[hand])) for hand in world.hands() if world.ended(hand)],
            "stopped": self.stopped(),
            "log": self.done,
            "busy": False,
            "len": len(self.done),
        }


QUESTIONS = ("places", "stands", "words", "slots", "ended", "stopped", "log", "busy")


def questions(run):
    """What the questions of a run tell, but for `left`."""
    told = {name: getattr(run, name)() for name in QUESTIONS}
    told["len"] = len(run)
    return told


def whole_view(run):
    """All that can be seen of a run, what can be taken back and done again too; the run stays."""
    found = [questions(run)]
    for name in ("again", "back"):
        other = run.twin()
        while True:
            try:
                found.append((name, getattr(other, name)(), questions(other)))
            except IndexError:
                break
    return found
