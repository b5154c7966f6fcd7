"""Build: the house of a program, its points, and the standing with which it begins.

The rooms are the shared values; a sign is a point and an own value, a point a row of a procedure.
"""

from callwalk.errors import NoName, NoRow
from callwalk.programs import PLACES


def point_of(program, name, row):
    first = 0
    for other, rows in program[2]:
        if other == name:
            if row < 0 or row >= len(rows):
                raise NoRow("the procedure has no row of this number")
            return first + row
        first = first + len(rows)
    raise NoName("no procedure has this name")


def sign_of(program, point, own):
    return point * program[1] + own


def first_points(program):
    return dict([(name, point_of(program, name, 0)) for name, rows in program[2]])


# What a row that changes a value may make of it.
def values_made(row, value, count):
    if row[0] == "set":
        return [row[2]]
    if row[0] == "turn":
        return [(value + 1) % count]
    return list(range(count))


# The rows that may come behind this one, where it changes no value.
def rows_behind(row, place, values):
    if row[0] == "go":
        return [row[1]]
    if row[0] == "fork":
        return [place + 1, row[1]]
    if row[0] == "if" and values[PLACES[row[1]]] == row[2]:
        return [row[3]]
    return [place + 1]


def changed(values, which, value):
    return (value, values[1]) if which == 0 else (values[0], value)


# All that may come of a row with these values (the shared one, then the own one), but for call, back and stop: each
# time the row with which the procedure goes on, and the values then.
def goes_on(program, row, place, values):
    if row[0] not in ("set", "any", "turn"):
        return [(other, values) for other in rows_behind(row, place, values)]
    which = PLACES[row[1]]
    made = values_made(row, values[which], program[which])
    return [(place + 1, changed(values, which, value)) for value in made]


# The rooms and puts of the rules of the row at this place behind its procedure's first point.
def leads_to(program, firsts, first, row, place, values):
    if row[0] == "stop":
        return []
    if row[0] == "back":
        return [(values[0], ())]
    if row[0] == "call":
        called = sign_of(program, firsts[row[1]], values[1])
        return [(values[0], (called, sign_of(program, first + place + 1, values[1])))]
    ahead = goes_on(program, row, place, values)
    return [(there[0], (sign_of(program, first + other, there[1]),)) for other, there in ahead]


def rules_at(program, firsts, first, row, place):
    rules = []
    for own in range(program[1]):
        sign = sign_of(program, first + place, own)
        for shared in range(program[0]):
            ahead = leads_to(program, firsts, first, row, place, (shared, own))
            rules.extend([(shared, sign, room, put) for room, put in ahead])
    return rules


def house_of(program):
    firsts = first_points(program)
    rules = []
    for name, rows in program[2]:
        for place, row in enumerate(rows):
            rules.extend(rules_at(program, firsts, firsts[name], row, place))
    points = sum([len(rows) for name, rows in program[2]])
    return (program[0], sign_of(program, points, 0), rules)


def beginning(program):
    return (0, [sign_of(program, point_of(program, "main", 0), 0)])
