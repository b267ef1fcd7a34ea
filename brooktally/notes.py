"""Plans as lists of lines, one for each step."""

from brooktally.errors import BadLine
from brooktally.plans import checked
from brooktally.steps import is_step, name_of
from brooktally.words import line_of, number_of


def written(plan):
    return [line_of((name_of(step), step[0]) + step[2:]) for step in plan]


def part_of(word):
    # No word that writes a number is a name or a tally, so each word has one meaning.
    number = number_of(word)
    return word if number is None else number


def step_of(line):
    words = line.split(" ")
    return tuple(words[1:2] + words[:1] + [part_of(word) for word in words[2:]])


def plan_of(lines):
    plan = [step_of(line) for line in lines]
    for place, step in enumerate(plan):
        if not is_step(step):
            raise BadLine(place)
    checked(plan)
    return plan
