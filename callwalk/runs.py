"""Runs: rows of steps, each told by its first standing and the numbers of its rules."""

from callwalk.errors import NoStep
from callwalk.houses import fits, stepped


def rule_for(house, standing, number):
    rules = house[2]
    # Python would count a number below nought from the list's end.
    if number < 0 or number >= len(rules):
        raise NoStep("no rule has this number")
    if not fits(rules[number], standing):
        raise NoStep("the rule does not fit the standing")
    return rules[number]


def standings_on(house, standing, numbers):
    # The first one is copied, since behind a run of no steps it is what is given back.
    row = [(standing[0], list(standing[1]))]
    for number in numbers:
        here = row[-1]
        row.append(stepped(rule_for(house, here, number), here))
    return row


def ran(house, standing, numbers):
    return standings_on(house, standing, numbers)[-1]


# Of the lengths of the stack, the one numbered as a step is ahead of that step, the next one behind it.
def return_of(lengths, call):
    for step in range(call + 1, len(lengths) - 1):
        if lengths[step + 1] == lengths[call]:
            return step
    return None


def returns(house, standing, numbers):
    lengths = [len(there[1]) for there in standings_on(house, standing, numbers)]
    calls = [step for step, number in enumerate(numbers) if len(house[2][number][3]) == 2]
    return [(call, return_of(lengths, call)) for call in calls]
