"""Forward: machines that no step leaves, and those that take just what runs lead to."""

from callwalk.houses import head_of, marked
from callwalk.machines import refuse_unless_plain


# By state, then by sign, the states to which arrows lead, as a dict: to ask for one arrow looks at that one alone.
def arrow_table(machine):
    table = {}
    for start, sign, to in machine[1]:
        table.setdefault(start, {}).setdefault(sign, {})[to] = True
    return table


def led_to(table, start, sign):
    return table.get(start, {}).get(sign, {})


# Whatever goes on from the state goes on from the room too.
def goes_on_as(table, ends, room, state):
    if state in ends and room not in ends:
        return False
    for sign, there in table.get(state, {}).items():
        known = led_to(table, room, sign)
        if not all([to in known for to in there]):
            return False
    return True


# Those of the states to which no two arrows lead along the put, over whatever state between. Of these the last are
# tried first: a state that was added for the put leads to them all.
def unled(table, room, put, states):
    left = list(states)
    for mid in reversed(list(led_to(table, room, put[0]))):
        there = led_to(table, mid, put[1])
        left = [state for state in left if state not in there]
        if not left:
            break
    return left


# Those of the states that the rule's head leads to, for which the machine is not closed. What was found of a room and a
# state is kept in known, since many rules ask for the same.
def leaking(table, ends, rule, known):
    room = rule[2]
    put = rule[3]
    states = led_to(table, rule[0], rule[1])
    if len(put) == 1:
        there = led_to(table, room, put[0])
        return [state for state in states if state not in there]
    if len(put) == 2:
        return unled(table, room, put, states)
    for state in states:
        if (room, state) not in known:
            known[(room, state)] = goes_on_as(table, ends, room, state)
    return [state for state in states if not known[(room, state)]]


def leak(house, machine):
    table = arrow_table(machine)
    ends = marked(machine[2])
    known = {}
    for number, rule in enumerate(house[2]):
        states = leaking(table, ends, rule, known)
        if states:
            return (number, (rule[0], rule[1], min(states)))
    return None


def rules_by_head(house):
    rules = {}
    for rule in house[2]:
        rules.setdefault(head_of(rule), {})[rule] = True
    return rules


# Arrows are added till the machine is closed. No arrow leads to a room, so that only what begins in a room, or between
# the two signs of a put, ever goes on otherwise than before.
class Spreading:
    def __init__(self, house, machine):
        self.rules = rules_by_head(house)
        self.states = machine[0]
        self.table = {}
        self.ends = marked(machine[2])
        # For each state the rooms that go on as it does, since a rule with an empty put led there.
        self.followers = {}
        # The state between the two signs of a put, by the room and the first sign: beneath that sign lies, in that
        # room, whatever it takes, by whichever rule.
        self.mids = {}
        # The arrows of which it is not yet told what they bring about.
        self.due = []

    def lead(self, start, sign, to):
        there = self.table.setdefault(start, {}).setdefault(sign, {})
        if to not in there:
            there[to] = True
            self.due.append((start, sign, to))

    def follow(self, room, state):
        rooms = self.followers.setdefault(state, {})
        if room in rooms:
            return
        rooms[room] = True
        if state in self.ends:
            self.ends[room] = True
        # The state is no room, so that what is walked here stays as it is.
        for sign, there in self.table.get(state, {}).items():
            for to in there:
                self.lead(room, sign, to)

    def mid_for(self, room, sign):
        return self.mids.setdefault((room, sign), self.states + len(self.mids))

    def take_rule(self, rule, state):
        put = rule[3]
        if len(put) == 0:
            self.follow(rule[2], state)
        elif len(put) == 1:
            self.lead(rule[2], put[0], state)
        else:
            mid = self.mid_for(rule[2], put[0])
            self.lead(rule[2], put[0], mid)
            self.lead(mid, put[1], state)

    def spread(self):
        while self.due:
            arrow = self.due.pop()
            for room in self.followers.get(arrow[0], {}):
                self.lead(room, arrow[1], arrow[2])
            for rule in self.rules.get((arrow[0], arrow[1]), {}):
                self.take_rule(rule, arrow[2])

    def machine(self):
        arrows = []
        for start in sorted(self.table):
            for sign in sorted(self.table[start]):
                arrows.extend([(start, sign, to) for to in sorted(self.table[start][sign])])
        return (self.states + len(self.mids), arrows, sorted(self.ends))


def forward(house, machine):
    refuse_unless_plain(house, machine)
    spreading = Spreading(house, machine)
    for start, sign, to in machine[1]:
        spreading.lead(start, sign, to)
    spreading.spread()
    return spreading.machine()
