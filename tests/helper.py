"""What several test files need: standings, houses and machines by chance, runs, heads, rings, programs, time."""

import contextlib
import itertools
import time

from callwalk.forward import forward
from callwalk.houses import steps
from callwalk.machines import common
from callwalk.making import heading, listing
from callwalk.ways import pairs

# Far above what is seen, so that a slow machine passes, and far below what a walk over too much would need.
MOST_SECONDS = 25

# A program as it begins: the shared value, and for each procedure that goes on (name, row, own value), the one that was
# called last first.
BEGUN = (0, (("main", 0, 0),))


def standings(house, longest):
    for room in range(house[0]):
        for length in range(longest + 1):
            for stack in itertools.product(range(house[1]), repeat=length):
                yield (room, list(stack))


def some_house(chance, rooms, signs, rules):
    def put():
        return tuple(chance.randrange(signs) for _ in range(chance.randrange(3)))
    return (rooms, signs, [(chance.randrange(rooms), chance.randrange(signs), chance.randrange(rooms), put())
                           for _ in range(rules)])


def some_machine(chance, house, states, arrows, plain, ends=2):
    # As many arrows and ends as come by this many throws: the same one may be thrown twice.
    lowest = house[0] if plain else 0
    thrown = {(chance.randrange(states), chance.randrange(house[1]), chance.randrange(lowest, states))
              for _ in range(arrows)} if lowest < states else set()
    return (states, sorted(thrown), sorted({chance.randrange(states) for _ in range(ends)}))


def has_path(machine, state, stack):
    # Straight by the words of [6], with no regard to how long it takes.
    if not stack:
        return state in machine[2]
    return any(arrow[:2] == (state, stack[0]) and has_path(machine, arrow[2], stack[1:]) for arrow in machine[1])


def levels(house, begin, most):
    # For each number of steps up to the most, the standings to which runs of so many steps and of no fewer lead.
    seen, here = {}, [begin]
    for count in range(most + 1):
        fresh = {(room, tuple(stack)): True for room, stack in here if (room, tuple(stack)) not in seen}
        seen.update(fresh)
        here = [(room, list(stack)) for room, stack in fresh]
        yield here
        here = [there for standing in here for number, there in steps(house, standing)]


def doubling(signs, rooms=1):
    # Each sign takes one step more than twice as many as the one below it to be gone: sign n takes 2 ** (n + 1) - 1.
    return (rooms, signs, [(0, 0, 0, ())] + [(0, sign, 0, (sign - 1, sign - 1)) for sign in range(1, signs)])


def all_heads(house):
    return [(room, sign) for room in range(house[0]) for sign in range(house[1])]


def head(standing):
    return (standing[0], standing[1][0]) if standing[1] else None


def steps_by_words(house):
    gone = pairs(house)
    found = {}
    for p, a, q, put in house[2]:
        led = found.setdefault((p, a), set())
        if len(put) == 1:
            led.add((q, put[0]))
        if len(put) == 2:
            led.add((q, put[0]))
            led.update({(r, put[1]) for r in range(house[0]) if (q, put[0], r) in gone})
    return {start: sorted(led) for start, led in found.items()}


def heads_by_forward(house, standing):
    there = forward(house, listing(house, [standing]))
    return [one for one in all_heads(house) if common(house, there, heading(house, [one])) is not None]


def has_circle(leading, heads):
    for start in heads:
        reached, due = set(), list(leading.get(start, []))
        while due:
            one = due.pop()
            if one not in reached:
                reached.add(one)
                due.extend(leading.get(one, []))
        if start in reached:
            return True
    return False


def some_standing(chance, house, longest):
    return (chance.randrange(house[0]), [chance.randrange(house[1]) for _ in range(chance.randrange(longest + 1))])


def some_text(chance, shared, own, procedures, rows):
    # A program that is refused for nothing.
    names = ["main", "f", "go", "skip"][:procedures]
    chance.shuffle(names)

    def row(count):
        which = chance.choice(("shared", "own"))
        value, place = chance.randrange(shared if which == "shared" else own), chance.randrange(count)
        return chance.choice(("skip", f"set {which} {value}", f"any {which}", f"turn {which}",
                              f"if {which} {value} {place}", f"go {place}", f"fork {place}", "back", "stop",
                              f"call {chance.choice(names)}", f"call {chance.choice(names)}"))

    def procedure(name):
        count = chance.randrange(1, rows + 1)
        last = chance.choice((f"go {chance.randrange(count)}", "back", "back", "back", "stop"))
        return f"{name}: " + ", ".join([row(count) for _ in range(count - 1)] + [last])
    return "; ".join([f"values {shared} {own}"] + [procedure(name) for name in names])


def done(program, now):
    # Straight by the words of [18]: all that may come of the row that is due, in the order of [20].
    shared, going = now
    if not going:
        return []
    (name, place, own), rest = going[0], going[1:]
    word, *more = dict(program[2])[name][place]

    def on(row, shared=shared, own=own):
        return (shared, ((name, row, own),) + rest)

    def with_value(value):
        return on(place + 1, shared=value) if more[0] == "shared" else on(place + 1, own=value)
    if word == "stop":
        return []
    if word == "back":
        return [(shared, rest)]
    if word == "call":
        return [(shared, ((more[0], 0, own), (name, place + 1, own)) + rest)]
    if word == "go":
        return [on(more[0])]
    if word == "fork":
        return [on(place + 1), on(more[0])]
    if word == "skip":
        return [on(place + 1)]
    value, count = (shared, program[0]) if more[0] == "shared" else (own, program[1])
    if word == "if":
        return [on(more[2] if value == more[1] else place + 1)]
    if word == "set":
        return [with_value(more[1])]
    if word == "turn":
        return [with_value(0 if value == count - 1 else value + 1)]
    return [with_value(value) for value in range(count)]


def check_form(test, house, machine):
    test.assertIs(type(machine), tuple)
    states, arrows, ends = machine
    test.assertIs(type(states), int)
    test.assertGreaterEqual(states, house[0])
    test.assertIs(type(arrows), list)
    test.assertEqual(arrows, sorted(set(arrows)))
    for arrow in arrows:
        test.assertIs(type(arrow), tuple)
        start, sign, to = arrow
        test.assertIn(start, range(states))
        test.assertIn(sign, range(house[1]))
        test.assertIn(to, range(states))
    test.assertIs(type(ends), list)
    test.assertEqual(ends, sorted(set(ends)))
    for end in ends:
        test.assertIn(end, range(states))


def check_plain(test, house, machine):
    check_form(test, house, machine)
    for arrow in machine[1]:
        test.assertNotIn(arrow[2], range(house[0]))


def check_ring(test, leading, heads, given):
    # Straight by the words of [14], by these head steps and the heads of the standing.
    test.assertIs(type(given), list)
    test.assertGreater(len(given), 0)
    test.assertEqual(len(set(given)), len(given))
    test.assertLessEqual(set(given), set(heads))
    for here, there in zip(given, given[1:] + given[:1]):
        test.assertIn(there, leading[here])


@contextlib.contextmanager
def in_seconds(test):
    begun = time.monotonic()
    yield
    test.assertLess(time.monotonic() - begun, MOST_SECONDS)
