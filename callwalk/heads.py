"""Heads: what is wanted till then, the heads that are come to, and the rings of runs without end."""

from callwalk.houses import cut, head_of, marked
from callwalk.making import heading
from callwalk.ways import least, pairs


# A step from a standing is one by a rule with its head. So cut to the wanted heads, the house has just the runs on
# which each standing but the last has one of them.
def till(house, wanted, goal, standing):
    return least(cut(house, wanted), heading(house, goal), standing)


# For each head the rooms in which its sign may be gone.
def rooms_behind(house):
    behind = {}
    for room, sign, other in pairs(house):
        behind.setdefault((room, sign), []).append(other)
    return behind


def heads_by(rule, behind):
    put = rule[3]
    if len(put) == 0:
        return []
    first = (rule[2], put[0])
    if len(put) == 1:
        return [first]
    return [first] + [(room, put[1]) for room in behind.get(first, [])]


def head_steps_with(house, behind):
    leading = {}
    for rule in house[2]:
        leading.setdefault(head_of(rule), []).extend(heads_by(rule, behind))
    return dict([(head, sorted(set(heads))) for head, heads in leading.items()])


def head_steps(house):
    return head_steps_with(house, rooms_behind(house))


# The heads with which the standing's own signs come to be on top, each behind all those above it.
def own_heads(behind, standing):
    heads = []
    rooms = [standing[0]]
    for sign in standing[1]:
        tops = [(room, sign) for room in rooms]
        heads.extend(tops)
        gone = []
        for top in tops:
            gone.extend(behind.get(top, []))
        rooms = sorted(set(gone))
    return heads


# For each of the standing's heads those to which head steps lead from it: none where no rule has the head.
def steps_among(house, standing):
    behind = rooms_behind(house)
    leading = head_steps_with(house, behind)
    among = {}
    due = own_heads(behind, standing)
    while due:
        head = due.pop()
        if head not in among:
            among[head] = leading.get(head, [])
            due.extend(among[head])
    return among


def heads_of(house, standing):
    return sorted(steps_among(house, standing))


# The heads from which head steps come to an end, whichever are taken: first those that lead nowhere, then, again and
# again, those that lead to such heads alone. So each stands behind all those to which its own head steps lead.
def coming_to_an_end(among):
    left = dict([(head, len(ahead)) for head, ahead in among.items()])
    before = {}
    for head, ahead in among.items():
        for other in ahead:
            before.setdefault(other, []).append(head)
    ended = [head for head in among if left[head] == 0]
    due = list(ended)
    while due:
        last = due.pop()
        for head in before.get(last, []):
            left[head] = left[head] - 1
            if left[head] == 0:
                ended.append(head)
                due.append(head)
    return marked(ended)


# Each head that is left has a head step to another that is left, so that a walk comes to one where it was before.
def ring(house, standing):
    among = steps_among(house, standing)
    ended = coming_to_an_end(among)
    left = [head for head in among if head not in ended]
    if not left:
        return None
    walk = {}
    head = left[0]
    while head not in walk:
        walk[head] = True
        head = [other for other in among[head] if other not in ended][0]
    heads = list(walk)
    return heads[heads.index(head):]
