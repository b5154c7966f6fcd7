"""Lasting: tiers of heads, the longest run where none goes on without end, and runs that fail a goal."""

from callwalk.errors import Endless
from callwalk.forward import rules_by_head
from callwalk.heads import coming_to_an_end, ring, steps_among
from callwalk.houses import cut, head_of, marked, stuck_heads
from callwalk.making import ending, heading
from callwalk.ways import least


# Each behind all those to which head steps lead from it, so that what hangs on these is known when it comes.
def in_order(among):
    ended = list(coming_to_an_end(among))
    if len(ended) < len(among):
        raise Endless("some run goes on without end")
    return ended


def tiers(house, standing):
    among = steps_among(house, standing)
    told = {}
    for head in in_order(among):
        told[head] = max([told[other] + 1 for other in among[head]], default=0)
    return told


# The longest runs from a room with these signs on the stack, behind so many steps: the greatest number of steps, and,
# by the room in which all the signs may be gone, the greatest number till then. Known tells the same of each head.
def walked(known, room, signs, done):
    most = done
    rooms = {room: done}
    for sign in signs:
        behind = {}
        for here, count in rooms.items():
            ahead = known[(here, sign)]
            most = max(most, count + ahead[0])
            for there, more in ahead[1].items():
                behind[there] = max(behind.get(there, 0), count + more)
        rooms = behind
    return (most, rooms)


def longest_by(known, rules):
    most = 0
    gone = {}
    for rule in rules:
        there = walked(known, rule[2], rule[3], 1)
        most = max(most, there[0])
        for room, count in there[1].items():
            gone[room] = max(gone.get(room, 0), count)
    return (most, gone)


def longest(house, standing):
    rules = rules_by_head(house)
    known = {}
    for head in in_order(steps_among(house, standing)):
        known[head] = longest_by(known, rules.get(head, {}))
    return walked(known, standing[0], standing[1], 0)[0]


# In the cut house no step is done from a head of the goal. What is stuck is so in the house as it is, since a head of
# the goal is stuck in the cut one too, though it fails nothing.
def failing(house, goal, standing):
    barred = marked(goal)
    left = cut(house, [head_of(rule) for rule in house[2] if head_of(rule) not in barred])
    count = least(left, ending(house, list(range(house[0]))), standing)
    if count is not None:
        return ("ended", count)
    stuck = [head for head in stuck_heads(house) if head not in barred]
    count = least(left, heading(house, stuck), standing)
    if count is not None:
        return ("stuck", count)
    heads = ring(left, standing)
    return None if heads is None else ("endless", heads)
