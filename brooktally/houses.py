"""A house: several hands at one plan and one clock, each key at one of them."""

from brooktally.clocks import Clock
from brooktally.flow import rows_of
from brooktally.hands import Hand
from brooktally.words import LETTERS


def first_home(key, many):
    return sum([LETTERS.index(letter) for letter in key]) % many


class House:
    def __init__(self, plan, slack, many):
        self.clock = Clock(slack)
        self.hands = [Hand(plan) for number in range(many)]
        self.homes = {}

    def home(self, key):
        return self.homes.get(key, first_home(key, len(self.hands)))

    def move(self, key, number):
        parcel = self.hands[self.home(key)].give_up(key)
        self.homes[key] = number
        self.hands[number].take_in(key, parcel)

    def come(self, event):
        if not self.clock.admit(event[0]):
            return (False, [])
        self.hands[self.home(event[2])].bring(event)
        for hand in self.hands:
            hand.forget(self.clock.now)
        return (True, self.told_by(self.clock.now))

    def told_by(self, now):
        told = []
        for hand in self.hands:
            told.extend(hand.over(now))
        return rows_of(sorted(told))

    def finish(self):
        return self.told_by(None)
