"""Ways: the least number of steps to a standing that a plain machine takes, and runs of so many steps."""

from callwalk.errors import NoWay, TooLong
from callwalk.prices import prices


# By state and sign, so that a walk along a stack looks only at the arrows that go on from where it is.
def priced_from(told):
    leading = {}
    for arrow, price in told.items():
        leading.setdefault((arrow[0], arrow[1]), []).append((arrow, price[0]))
    return leading


# One sign further: for each state the lowest sum, and the arrow by which it is come to for it.
def sums_ahead(leading, sums, sign):
    ahead = {}
    for state, reached in sums.items():
        for arrow, price in leading.get((state, sign), []):
            known = ahead.get(arrow[2])
            if known is None or reached[0] + price < known[0]:
                ahead[arrow[2]] = (reached[0] + price, arrow)
    return ahead


# For each number of signs, from none on, the sums of the states to which arrows lead along so many signs of the stack.
def sums_along(told, standing):
    leading = priced_from(told)
    rows = [{standing[0]: (0, None)}]
    for sign in standing[1]:
        rows.append(sums_ahead(leading, rows[-1], sign))
    return rows


# The lowest sum with which an end is come to, and that end.
def lowest_end(machine, sums):
    return min([(sums[end][0], end) for end in machine[2] if end in sums], default=None)


def least(house, machine, standing):
    lowest = lowest_end(machine, sums_along(prices(house, machine), standing)[-1])
    return None if lowest is None else lowest[0]


# The arrows by which the state is come to, the last one first.
def arrows_back(rows, state):
    arrows = []
    for sums in reversed(rows[1:]):
        arrow = sums[state][1]
        arrows.append(arrow)
        state = arrow[0]
    return arrows


# The arrows of which a rule makes one to the state, the last one first.
def parts_back(rule, mid, state):
    if len(rule[3]) == 0:
        return []
    if len(rule[3]) == 1:
        return [(rule[2], rule[3][0], state)]
    return [(mid, rule[3][1], state), (rule[2], rule[3][0], mid)]


# What an arrow is made of is walked ahead of the arrows that follow it, since it stands for what lies above them. A
# list of what is due does not go deep in calls, however long the run is.
def rules_along(house, told, arrows):
    due = list(arrows)
    numbers = []
    while due:
        arrow = due.pop()
        number = told[arrow][1]
        if number is not None:
            numbers.append(number)
            due.extend(parts_back(house[2][number], told[arrow][2], arrow[2]))
    return numbers


def way(house, machine, standing, most=60):
    told = prices(house, machine)
    rows = sums_along(told, standing)
    lowest = lowest_end(machine, rows[-1])
    if lowest is None:
        raise NoWay("no run leads to a standing that the machine takes")
    # Ahead of the walk, since the run may be longer than could ever be told.
    if lowest[0] > most:
        raise TooLong("the shortest run has more steps than are wanted")
    return rules_along(house, told, arrows_back(rows, lowest[1]))


# Of a machine without arrows, the priced ones lead from room to room, and each stands for a sign that is gone.
def pairs(house):
    told = prices(house, (house[0], [], []))
    return dict([(arrow, price[0]) for arrow, price in told.items()])
