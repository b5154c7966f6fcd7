"""What several test files need: all short standings, houses and machines by chance, the form of a machine, time."""

import contextlib
import itertools
import time

# Far above what is seen, so that a slow machine passes, and far below what a walk over too much would need.
MOST_SECONDS = 25


def standings(house, longest):
    for room in range(house[0]):
        for length in range(longest + 1):
            for stack in itertools.product(range(house[1]), repeat=length):
                yield (room, list(stack))


def some_house(chance, rooms, signs, rules):
    def put():
        return tuple(chance.randrange(signs) for _ in range(chance.randrange(3)))
    return (rooms, signs, [(chance.randrange(rooms), chance.randrange(signs), chance.randrange(rooms), put())
                           for _ in range(rules)])


def some_machine(chance, house, states, arrows, plain, ends=2):
    # As many arrows and ends as come by this many throws: the same one may be thrown twice.
    lowest = house[0] if plain else 0
    thrown = {(chance.randrange(states), chance.randrange(house[1]), chance.randrange(lowest, states))
              for _ in range(arrows)} if lowest < states else set()
    return (states, sorted(thrown), sorted({chance.randrange(states) for _ in range(ends)}))


def has_path(machine, state, stack):
    # Straight by the words of [6], with no regard to how long it takes.
    if not stack:
        return state in machine[2]
    return any(arrow[:2] == (state, stack[0]) and has_path(machine, arrow[2], stack[1:]) for arrow in machine[1])


def check_form(test, house, machine):
    test.assertIs(type(machine), tuple)
    states, arrows, ends = machine
    test.assertIs(type(states), int)
    test.assertGreaterEqual(states, house[0])
    test.assertIs(type(arrows), list)
    test.assertEqual(arrows, sorted(set(arrows)))
    for arrow in arrows:
        test.assertIs(type(arrow), tuple)
        start, sign, to = arrow
        test.assertIn(start, range(states))
        test.assertIn(sign, range(house[1]))
        test.assertIn(to, range(states))
    test.assertIs(type(ends), list)
    test.assertEqual(ends, sorted(set(ends)))
    for end in ends:
        test.assertIn(end, range(states))


def check_plain(test, house, machine):
    check_form(test, house, machine)
    for arrow in machine[1]:
        test.assertNotIn(arrow[2], range(house[0]))


@contextlib.contextmanager
def in_seconds(test):
    begun = time.monotonic()
    yield
    test.assertLess(time.monotonic() - begun, MOST_SECONDS)
