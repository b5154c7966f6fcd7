"""Houses: rules over rooms and stacks, and the steps that they make.

A house is (rooms, signs, rules), a rule (room, sign, to, put), a standing (room, stack), a head (room, sign).
"""


def head_of(rule):
    return (rule[0], rule[1])


def fits(rule, standing):
    stack = standing[1]
    # An ended standing has no head, so that no rule fits it.
    return len(stack) > 0 and head_of(rule) == (standing[0], stack[0])


def stepped(rule, standing):
    return (rule[2], list(rule[3]) + standing[1][1:])


def steps(house, standing):
    return [(number, stepped(rule, standing)) for number, rule in enumerate(house[2]) if fits(rule, standing)]


# A dict, so that to ask whether something is among many things does not look through them all.
def marked(things):
    return dict([(thing, True) for thing in things])


def stuck_heads(house):
    led = marked([head_of(rule) for rule in house[2]])
    stuck = []
    for room in range(house[0]):
        stuck.extend([(room, sign) for sign in range(house[1]) if (room, sign) not in led])
    return stuck


def cut(house, heads):
    kept = marked(heads)
    return (house[0], house[1], [rule for rule in house[2] if head_of(rule) in kept])
