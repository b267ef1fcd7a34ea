"""A clock that stands its slack behind the greatest time that it was told."""

from brooktally.errors import BadSlack
from brooktally.words import is_among

MOST_SLACK = 1000000000


class Clock:
    def __init__(self, slack):
        if not is_among(slack, 0, MOST_SLACK):
            raise BadSlack("a slack is a whole number from 0 to 1000000000")
        self.slack = slack
        self.now = 0
        self.count = 0

    def admit(self, time):
        self.count = self.count + 1
        if time < self.now:
            return False
        self.now = max(self.now, time - self.slack)
        return True


def late_places(slack, times):
    clock = Clock(slack)
    return [place for place, time in enumerate(times) if not clock.admit(time)]
