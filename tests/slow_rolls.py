"""Rolls and towers once more, word by word and slowly, and histories of askings and answers."""

import oracle
import slow


class Asking:
    """No two are alike."""

    def __init__(self, hand, operation):
        self.hand = hand
        self.operation = operation


class SlowHands:
    """What rolls and towers share: hands that ask, and the askings that each has gone so far."""

    def __init__(self, table, many, start):
        self.table = table
        self.many = many
        self.start = start
        self.asked = [None] * many
        self.taken = [[] for hand in range(many)]

    def ask(self, hand, operation):
        self.asked[hand] = Asking(hand, operation)

    def stand(self, hand):
        return oracle.walk(self.table, self.start, [asking.operation for asking in self.taken[hand]])[1]

    def take(self, hand, asking):
        """The answer where it is its own asking, else None."""
        answer = self.table[asking.operation][self.stand(hand)][0]
        self.taken[hand].append(asking)
        if asking is not self.asked[hand]:
            return None
        self.asked[hand] = None
        return answer

    def pending(self, hand):
        return None if self.asked[hand] is None else self.asked[hand].operation

    def rows_of(self, askings):
        return [(asking.hand, asking.operation) for asking in askings]


class SlowRoll(SlowHands):
    def __init__(self, table, many, start=0):
        super().__init__(table, many, start)
        self.cells = []

    def step(self, hand):
        place = len(self.taken[hand])
        if place == len(self.cells):
            helped = self.asked[len(self.cells) % self.many]
            self.cells.append(helped if helped is not None and helped not in self.cells else self.asked[hand])
        return self.take(hand, self.cells[place])

    def questions(self):
        hands = range(self.many)
        return {
            "rows": self.rows_of(self.cells),
            "len": len(self.cells),
            "pending": [self.pending(hand) for hand in hands],
            "stand": [self.stand(hand) for hand in hands],
            "behind": [len(self.cells) - len(self.taken[hand]) for hand in hands],
        }

    def bound(self, hand):
        """The most steps by which it is answered if it asks now."""
        return len(self.cells) - len(self.taken[hand]) + self.many


class Cell:
    def __init__(self, base, scheme):
        self.world = slow.World(base, scheme)
        self.offers = {}


class SlowTower(SlowHands):
    def __init__(self, table, base, scheme, many, start=0):
        super().__init__(table, many, start)
        self.base = base
        self.scheme = scheme
        self.longest = [slow.longest(code) for code in scheme[1]]
        self.cells = []
        self.words = ["read"] * many
        self.lives = [self.life(hand) for hand in range(many)]

    def step(self, hand):
        return next(self.lives[hand])

    def life(self, hand):
        """All steps of a hand, one by one; what each tells."""
        while True:
            number = len(self.taken[hand])
            while len(self.cells) <= number:
                self.cells.append(Cell(self.base, self.scheme))
            cell = self.cells[number]
            offer = self.asked[number % self.many]
            if offer is None or offer in self.taken[hand]:
                offer = self.asked[hand]
            self.words[hand] = "post"
            yield None
            cell.offers[hand] = offer
            while not cell.world.ended(hand):
                self.words[hand] = "code"
                yield None
                cell.world.step(hand)
            self.words[hand] = "take"
            yield None
            self.words[hand] = "read"
            yield self.take(hand, cell.offers[cell.world.holds[hand]])

    def questions(self):
        hands = range(self.many)
        furthest = max(self.taken, key=len)
        return {
            "rows": self.rows_of(furthest),
            "len": len(furthest),
            "come": len(self.cells),
            "pending": [self.pending(hand) for hand in hands],
            "stand": [self.stand(hand) for hand in hands],
            "place": [(len(self.taken[hand]), self.words[hand]) for hand in hands],
            "room": [self.bound(hand) for hand in hands],
        }

    def bound(self, hand):
        """The most steps by which it is answered if it asks now."""
        cells = len(self.cells) - len(self.taken[hand]) + self.many
        return cells * (3 + self.longest[hand])


def questions(thing, many):
    """What all questions of a roll or a tower for so many hands tell."""
    told = {"rows": thing.rows(), "len": len(thing)}
    if hasattr(thing, "come"):
        told["come"] = thing.come()
    for name in ("pending", "stand", "behind", "place", "room"):
        if hasattr(thing, name):
            told[name] = [getattr(thing, name)(hand) for hand in range(many)]
    return told


class History:
    """The askings of hands and their answers, in the order of time."""

    def __init__(self):
        self.askings = []
        self.time = 0

    def ask(self, hand, operation):
        self.time += 1
        self.askings.append({"hand": hand, "operation": operation, "asked": self.time, "answer": None})

    def answer(self, hand, answer):
        self.time += 1
        asking = [one for one in self.askings if one["hand"] == hand][-1]
        asking["answer"] = answer
        asking["answered"] = self.time

    def check(self, test, table, start, rows):
        """All answers are those of one thing by the cells' order, and what was answered ahead stands ahead."""
        answers = oracle.walk(table, start, [operation for hand, operation in rows])[0]
        placed = []
        for hand in sorted({one["hand"] for one in self.askings} | {hand for hand, operation in rows}):
            own = [one for one in self.askings if one["hand"] == hand]
            cells = [at for at, row in enumerate(rows) if row[0] == hand]
            test.assertLessEqual(len(cells), len(own))
            for one, at in zip(own, cells):
                test.assertEqual(one["operation"], rows[at][1])
                if one["answer"] is not None:
                    test.assertEqual(one["answer"], answers[at])
                placed.append((at, one))
            for one in own[len(cells):]:
                test.assertIsNone(one["answer"])
        placed.sort(key=lambda pair: pair[0])
        soonest = 0
        for at, one in reversed(placed):
            # Whatever stands behind in the cells was not answered ahead of this one's being asked.
            test.assertTrue(soonest == 0 or soonest > one["asked"])
            if one["answer"] is not None:
                soonest = min(soonest, one["answered"]) if soonest else one["answered"]


def schedules(many, draw, length):
    """Lists of hands that go: by turns, each alone for a while, one far ahead, drawn, and some that stop for ever."""
    hands = list(range(many))
    found = [[step % many for step in range(length)], [many - 1 - step % many for step in range(length)]]
    for far in hands:
        others = [hand for hand in hands if hand != far]
        found.append([far] * (length // 2) + [draw.one_of(others) for step in range(length // 2)])
        found.append([draw.one_of(hands) for step in range(9)] + [far] * length)
    for longest in (3, 9, 30):
        found.append(bursts(draw, hands, length, longest))
    for number in range(3):
        found.append([draw.one_of(hands) for step in range(length)])
        ahead = bursts(draw, hands, length // 4, 4)
        going = [hand for hand in hands if draw.below(2)] or hands[:1]
        found.append(ahead + bursts(draw, going, length, 6))
    return found


def bursts(draw, hands, length, longest):
    found = []
    while len(found) < length:
        found += [draw.one_of(hands)] * (1 + draw.below(longest))
    return found


def drive(test, thing, slow_thing, schedule, draw, rest=4):
    """Hands go by a schedule: one that asked steps, another asks or, by the draw, rests; all is held against slow."""
    history = History()
    many = slow_thing.many
    steps = [0] * many
    bounds = [0] * many
    test.same(questions(thing, many), slow_thing.questions())
    for hand in schedule:
        if slow_thing.pending(hand) is None:
            if rest and draw.below(rest) == 0:
                continue
            operation = draw.below(len(slow_thing.table))
            bounds[hand] = slow_thing.bound(hand)
            steps[hand] = 0
            test.assertIsNone(thing.ask(hand, operation))
            slow_thing.ask(hand, operation)
            history.ask(hand, operation)
        else:
            told = thing.step(hand)
            test.same(told, slow_thing.step(hand))
            steps[hand] += 1
            test.assertLessEqual(steps[hand], bounds[hand])
            if slow_thing.pending(hand) is None:
                test.assertIsInstance(told, int)
                history.answer(hand, told)
            else:
                test.assertIsNone(told)
                test.assertLess(steps[hand], bounds[hand])
        test.same(questions(thing, many), slow_thing.questions())
    history.check(test, slow_thing.table, slow_thing.start, thing.rows())
    return history
