"""A ward: a house in which hands may be lost one by one, and go on from their keeps."""

from brooktally.clocks import Clock
from brooktally.flow import rows_of
from brooktally.handkeeps import hand_packed, hand_unpacked, whole_count
from brooktally.hands import Hand
from brooktally.houses import first_home
from brooktally.shelves import slot_due


def last_hand(plan, slots):
    counts = [whole_count(lines) for lines in slots]
    if max(counts) < 0:
        return (Hand(plan), 0)
    # Of like counts the first one is found.
    return hand_unpacked(plan, slots[counts.index(max(counts))])


class Part:
    def __init__(self, plan):
        self.hand = Hand(plan)
        self.slots = [[], []]
        self.seen = 0

    def write_keep(self, every):
        slot = slot_due(self.seen, every)
        if slot is not None:
            self.slots[slot] = hand_packed(self.hand, self.seen)

    def tear_keep(self, every, many):
        slot = slot_due(self.seen, every)
        if slot is not None:
            self.slots[slot] = hand_packed(self.hand, self.seen)[:many]


class Ward:
    def __init__(self, plan, slack, many, every):
        self.plan = list(plan)
        self.every = every
        self.clock = Clock(slack)
        self.log = []
        self.parts = [Part(plan) for number in range(many)]
        self.number = 0
        # What is over by events of which no rows could be told yet, by their places in the log.
        self.waiting = {}

    def come(self, event):
        good = self.clock.admit(event[0])
        self.log.append((event, self.clock.now) if good else None)
        place = len(self.log) - 1
        self.waiting[place] = []
        for at, part in enumerate(self.parts):
            if part.hand is not None:
                self.waiting[place].extend(self.read(at, place))
        return (good, self.told())

    def read(self, at, place):
        part = self.parts[at]
        over = []
        if self.log[place] is not None:
            event = self.log[place][0]
            now = self.log[place][1]
            if first_home(event[2], len(self.parts)) == at:
                part.hand.bring(event)
            part.hand.forget(now)
            over = part.hand.over(now)
        part.seen = place + 1
        part.write_keep(self.every)
        return over

    def told(self):
        until = min([part.seen for part in self.parts])
        rows = []
        for place in range(self.number, until):
            rows.extend(rows_of(sorted(self.waiting.pop(place))))
        self.number = until
        return rows

    def lose(self, at, many):
        part = self.parts[at]
        if part.hand is not None and many is not None:
            part.tear_keep(self.every, many)
        part.hand = None

    def back(self, at):
        if self.parts[at].hand is None:
            self.restore(at)
        return self.told()

    def restore(self, at):
        part = self.parts[at]
        # What was over by these events was told or set aside ahead of the loss.
        before = part.seen
        pair = last_hand(self.plan, part.slots)
        part.hand = pair[0]
        for place in range(pair[1], len(self.log)):
            over = self.read(at, place)
            if place >= before:
                self.waiting[place].extend(over)

    def finish(self):
        rows = []
        for at in range(len(self.parts)):
            rows.extend(self.back(at))
        over = []
        for part in self.parts:
            over.extend(part.hand.over(None))
        return rows + rows_of(sorted(over))
