"""The document's points on schemes once more, word by word and slowly, to test the program against."""


class World:
    """Hands, things and slots that change by steps."""

    def __init__(self, table, scheme):
        starts, codes = scheme
        self.table = table
        self.codes = codes
        self.at = [0 for code in codes]
        self.holds = [hand for hand in range(len(codes))]
        self.things = [start for start in starts]
        self.slots = [[None, None, None] for code in codes]

    def twin(self):
        other = World(self.table, (self.things, self.codes))
        other.at = list(self.at)
        other.holds = list(self.holds)
        other.slots = [list(three) for three in self.slots]
        return other

    def whole(self):
        slots = tuple(tuple(three) for three in self.slots)
        return tuple(self.at), tuple(self.holds), tuple(self.things), slots

    def hands(self):
        return range(len(self.codes))

    def ended(self, hand):
        return self.codes[hand][self.at[hand]][0] == "end"

    def end_words(self):
        return frozenset(self.holds[hand] for hand in self.hands() if self.ended(hand))

    def going(self):
        return [hand for hand in self.hands() if not self.ended(hand)]

    def step(self, hand):
        word, *told = self.codes[hand][self.at[hand]]
        {"post": self.post, "take": self.take, "do": self.do, "look": self.look}[word](hand, *told)

    def post(self, hand, slot):
        self.slots[hand][slot] = self.holds[hand]
        self.at[hand] += 1

    def take(self, hand, whose, slot, to):
        word = self.slots[whose][slot]
        if word is None:
            self.at[hand] += 1
        else:
            self.holds[hand] = word
            self.at[hand] = to

    def do(self, hand, thing, operation, ways):
        answer, self.things[thing] = self.table[operation][self.things[thing]]
        self.at[hand] = dict(ways).get(answer, self.at[hand] + 1)

    def look(self, hand, thing, ways):
        self.at[hand] = dict(ways).get(self.things[thing], self.at[hand] + 1)

    def back(self, hand):
        self.at[hand] = 0
        self.holds[hand] = hand


def behind(world, hand):
    other = world.twin()
    other.step(hand)
    return other


def come_back(world, hand):
    other = world.twin()
    other.back(hand)
    return other


def gone(table, scheme, weaving):
    """The world behind a list of numbers; what is no hand, or one that has ended, is passed over."""
    world = World(table, scheme)
    for hand in weaving:
        if hand in world.going():
            world.step(hand)
    return world


def worlds_from(world):
    """The worlds that can be come to from one, by their wholes."""
    found = {}
    waiting = [world]
    while waiting:
        here = waiting.pop()
        if here.whole() not in found:
            found[here.whole()] = here
            waiting += [behind(here, hand) for hand in here.going()]
    return found


def all_worlds(table, scheme):
    return worlds_from(World(table, scheme))


def coming(world):
    """The words that some hand has ended with, or can end with later on."""
    return sorted({word for other in worlds_from(world).values() for word in other.end_words()})


def agrees(table, scheme):
    return all(len(world.end_words()) < 2 for world in all_worlds(table, scheme).values())


def shortest(table, scheme):
    """How many steps the shortest weaving has behind which words are unlike, or None."""
    layer = {World(table, scheme).whole(): World(table, scheme)}
    steps = 0
    while layer:
        if any(len(world.end_words()) > 1 for world in layer.values()):
            return steps
        onward = [behind(world, hand) for world in layer.values() for hand in world.going()]
        layer = {world.whole(): world for world in onward}
        steps += 1
    return None


def moved(world, words):
    """The pairs of a world and all end words so far that come of a pair by one move."""
    others = [behind(world, hand) for hand in world.going()] + [come_back(world, hand) for hand in world.hands()]
    return [(other, words | other.end_words()) for other in others]


def all_pairs(table, scheme):
    """The pairs of a whole and end words that are gone through, each with the fewest moves to it."""
    world = World(table, scheme)
    found = {(world.whole(), world.end_words()): 0}
    layer = [(world, world.end_words())]
    moves = 0
    while layer:
        moves += 1
        onward = []
        for world, words in layer:
            for other, more in moved(world, words) if len(words) < 2 else []:
                if (other.whole(), more) not in found:
                    found[(other.whole(), more)] = moves
                    onward.append((other, more))
        layer = onward
    return found


def shortest_again(table, scheme):
    """How many moves the shortest row of moves has behind which words are unlike, or None."""
    return min([moves for (whole, words), moves in all_pairs(table, scheme).items() if len(words) > 1], default=None)


def unlike_again(table, scheme, moves):
    """Whether these are moves that may be done, behind which words are unlike."""
    world = World(table, scheme)
    words = world.end_words()
    for word, hand in moves:
        if word == "step" and hand in world.going():
            world.step(hand)
        elif word == "again" and hand in world.hands():
            world.back(hand)
        else:
            return False
        words |= world.end_words()
    return len(words) > 1


def longest(code, at=0):
    """The most steps from a row on, by trying all ways."""
    row = code[at]
    if row == ("end",):
        return 0
    tos = [at + 1]
    if row[0] == "take":
        tos.append(row[3])
    if row[0] in ("do", "look"):
        tos += [to for number, to in row[-1]]
    return 1 + max(longest(code, to) for to in tos)
