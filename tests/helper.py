"""What several test files need: short standings, houses and machines by chance, runs, the form of a machine, time."""

import contextlib
import itertools
import time

from callwalk.houses import steps

# Far above what is seen, so that a slow machine passes, and far below what a walk over too much would need.
MOST_SECONDS = 25


def standings(house, longest):
    for room in range(house[0]):
        for length in range(longest + 1):
            for stack in itertools.product(range(house[1]), repeat=length):
                yield (room, list(stack))


def some_house(chance, rooms, signs, rules):
    def put():
        return tuple(chance.randrange(signs) for _ in range(chance.randrange(3)))
    return (rooms, signs, [(chance.randrange(rooms), chance.randrange(signs), chance.randrange(rooms), put())
                           for _ in range(rules)])


def some_machine(chance, house, states, arrows, plain, ends=2):
    # As many arrows and ends as come by this many throws: the same one may be thrown twice.
    lowest = house[0] if plain else 0
    thrown = {(chance.randrange(states), chance.randrange(house[1]), chance.randrange(lowest, states))
              for _ in range(arrows)} if lowest < states else set()
    return (states, sorted(thrown), sorted({chance.randrange(states) for _ in range(ends)}))


def has_path(machine, state, stack):
    # Straight by the words of [6], with no regard to how long it takes.
    if not stack:
        return state in machine[2]
    return any(arrow[:2] == (state, stack[0]) and has_path(machine, arrow[2], stack[1:]) for arrow in machine[1])


def levels(house, begin, most):
    # For each number of steps up to the most, the standings to which runs of so many steps and of no fewer lead.
    seen, here = {}, [begin]
    for count in range(most + 1):
        fresh = {(room, tuple(stack)): True for room, stack in here if (room, tuple(stack)) not in seen}
        seen.update(fresh)
        here = [(room, list(stack)) for room, stack in fresh]
        yield here
        here = [there for standing in here for number, there in steps(house, standing)]


def doubling(signs, rooms=1):
    # Each sign takes one step more than twice as many as the one below it to be gone: sign n takes 2 ** (n + 1) - 1.
    return (rooms, signs, [(0, 0, 0, ())] + [(0, sign, 0, (sign - 1, sign - 1)) for sign in range(1, signs)])


def check_form(test, house, machine):
    test.assertIs(type(machine), tuple)
    states, arrows, ends = machine
    test.assertIs(type(states), int)
    test.assertGreaterEqual(states, house[0])
    test.assertIs(type(arrows), list)
    test.assertEqual(arrows, sorted(set(arrows)))
    for arrow in arrows:
        test.assertIs(type(arrow), tuple)
        start, sign, to = arrow
        test.assertIn(start, range(states))
        test.assertIn(sign, range(house[1]))
        test.assertIn(to, range(states))
    test.assertIs(type(ends), list)
    test.assertEqual(ends, sorted(set(ends)))
    for end in ends:
        test.assertIn(end, range(states))


def check_plain(test, house, machine):
    check_form(test, house, machine)
    for arrow in machine[1]:
        test.assertNotIn(arrow[2], range(house[0]))


@contextlib.contextmanager
def in_seconds(test):
    begun = time.monotonic()
    yield
    test.assertLess(time.monotonic() - begun, MOST_SECONDS)
