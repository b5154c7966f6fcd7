"""Machines: what standings they take, and what two of them have in common.

A machine is (states, arrows, ends), an arrow (state, sign, state); the first states are the rooms of the house.
"""

from callwalk.errors import NotPlain
from callwalk.houses import marked


def is_plain(house, machine):
    return all([arrow[2] >= house[0] for arrow in machine[1]])


def refuse_unless_plain(house, machine):
    if not is_plain(house, machine):
        raise NotPlain("an arrow of the machine leads to a room")


# By state, then by sign, so that a walk looks only at the arrows that go on from where it is.
def arrows_from(machine):
    leading = {}
    for start, sign, to in machine[1]:
        leading.setdefault(start, {}).setdefault(sign, []).append(to)
    return leading


def along(leading, states, sign):
    there = {}
    for state in states:
        there.update(marked(leading.get(state, {}).get(sign, [])))
    return there


def takes(machine, standing):
    leading = arrows_from(machine)
    here = {standing[0]: True}
    for sign in standing[1]:
        here = along(leading, here, sign)
    return any([end in here for end in machine[2]])


# The pairs one sign further than these that were not come to before; came tells for each, by its first state, then by
# its second, from which pair and along which sign it was come to.
def pairs_ahead(leading, other_leading, pairs, came):
    ahead = []
    for pair in pairs:
        beside = other_leading.get(pair[1], {})
        for sign, states in leading.get(pair[0], {}).items():
            others = beside.get(sign, [])
            for state in states:
                row = came.setdefault(state, {})
                fresh = [other for other in others if other not in row]
                for other in fresh:
                    row[other] = (pair, sign)
                    ahead.append((state, other))
    return ahead


def standing_to(came, pair):
    stack = []
    back = came[pair[0]][pair[1]]
    while back is not None:
        stack.append(back[1])
        pair = back[0]
        back = came[pair[0]][pair[1]]
    stack.reverse()
    return (pair[0], stack)


# Both machines read one stack, so pairs of a state of each are walked, all those with shorter stacks first.
def common(house, one, other):
    leading = arrows_from(one)
    other_leading = arrows_from(other)
    ends = marked(one[2])
    other_ends = marked(other[2])
    pairs = [(room, room) for room in range(house[0])]
    came = dict([(room, {room: None}) for room in range(house[0])])
    while pairs:
        for pair in pairs:
            if pair[0] in ends and pair[1] in other_ends:
                return standing_to(came, pair)
        pairs = pairs_ahead(leading, other_leading, pairs, came)
    return None
