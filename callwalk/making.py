"""Plain machines: of a list of standings, of heads, of ended rooms, and of two plain machines together."""

from callwalk.machines import refuse_unless_plain


def formed(states, arrows, ends):
    return (states, sorted(set(arrows)), sorted(set(ends)))


# The state that takes just this stack, known by its top sign and the state for what lies beneath. Whatever leads to
# it goes on with this stack alone, so standings share it.
def state_for(house, stack, known):
    state = house[0]
    for sign in reversed(stack):
        state = known.setdefault((sign, state), house[0] + 1 + len(known))
    return state


def listing(house, standings):
    known = {}
    tops = [(room, stack[0], state_for(house, stack[1:], known)) for room, stack in standings if len(stack) > 0]
    beneath = [(state, top[0], top[1]) for top, state in known.items()]
    ended = [room for room, stack in standings if len(stack) == 0]
    return formed(house[0] + 1 + len(known), tops + beneath, ended + [house[0]])


def heading(house, heads):
    end = house[0]
    tops = [(room, sign, end) for room, sign in heads]
    beneath = [(end, sign, end) for sign in range(house[1])]
    return formed(end + 1, tops + beneath, [end])


def ending(house, rooms):
    return formed(house[0], [], rooms)


# The rooms stay; a state behind them makes place for those of another machine.
def moved(house, state, places):
    return state if state < house[0] else state + places


# The two share the rooms alone. Since no arrow leads back to one, a walk that went into one machine stays in it.
def joining(house, one, other):
    refuse_unless_plain(house, one)
    refuse_unless_plain(house, other)
    places = one[0] - house[0]
    arrows = [(moved(house, start, places), sign, moved(house, to, places)) for start, sign, to in other[1]]
    ends = [moved(house, end, places) for end in other[2]]
    return formed(other[0] + places, one[1] + arrows, one[2] + ends)
