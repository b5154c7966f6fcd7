"""Machines, what they take and have in common: points [6] and [7], callwalk/machines.py."""

import random
import unittest

from callwalk.machines import common, is_plain, takes
from helper import has_path, in_seconds, some_machine, standings

HOUSE = (2, 3, [(0, 0, 1, (1, 2))])


class Takes(unittest.TestCase):
    def test_one_of_several_arrows_of_the_same_state_and_sign(self):
        # Of the three arrows along 0 just one goes on along 1, and just one along 2.
        machine = (6, [(0, 0, 2), (0, 0, 3), (0, 0, 4), (2, 2, 5), (3, 1, 5)], [5])
        self.assertIs(takes(machine, (0, [0, 1])), True)
        self.assertIs(takes(machine, (0, [0, 2])), True)
        self.assertIs(takes(machine, (0, [0, 0])), False)
        self.assertIs(takes(machine, (0, [0])), False)

    def test_one_of_several_arrows_leads_to_an_end(self):
        for ends in ([2], [3], [4]):
            self.assertIs(takes((5, [(0, 0, 2), (0, 0, 3), (0, 0, 4)], ends), (0, [0])), True)

    def test_an_empty_stack_in_a_room_that_is_an_end(self):
        self.assertIs(takes((2, [], [1]), (1, [])), True)
        self.assertIs(takes((3, [(1, 0, 2)], [0, 1, 2]), (1, [])), True)

    def test_an_empty_stack_in_a_room_that_is_no_end(self):
        self.assertIs(takes((2, [], [1]), (0, [])), False)
        self.assertIs(takes((3, [(0, 0, 2)], [1, 2]), (0, [])), False)
        self.assertIs(takes((2, [], []), (0, [])), False)

    def test_the_stack_is_read_from_the_top_on(self):
        machine = (4, [(0, 1, 2), (2, 0, 3)], [3])
        self.assertIs(takes(machine, (0, [1, 0])), True)
        self.assertIs(takes(machine, (0, [0, 1])), False)

    def test_the_whole_stack_is_read(self):
        machine = (4, [(0, 1, 2), (2, 0, 3)], [2])
        self.assertIs(takes(machine, (0, [1])), True)
        self.assertIs(takes(machine, (0, [1, 0])), False)
        self.assertIs(takes(machine, (0, [1, 1])), False)

    def test_the_walk_begins_in_the_room_of_the_standing(self):
        machine = (3, [(0, 0, 2), (1, 1, 2)], [2])
        self.assertIs(takes(machine, (0, [0])), True)
        self.assertIs(takes(machine, (1, [0])), False)
        self.assertIs(takes(machine, (1, [1])), True)

    def test_arrows_that_lead_back_to_rooms(self):
        machine = (3, [(0, 0, 1), (1, 1, 0), (1, 2, 2)], [0, 2])
        self.assertIs(takes(machine, (0, [0, 1])), True)
        self.assertIs(takes(machine, (0, [0, 1, 0, 1])), True)
        self.assertIs(takes(machine, (0, [0, 1, 0, 2])), True)
        self.assertIs(takes(machine, (1, [1])), True)
        self.assertIs(takes(machine, (0, [0, 1, 0])), False)
        self.assertIs(takes(machine, (1, [0])), False)

    def test_a_long_stack(self):
        # Its two ways at each sign would make far too many paths to walk each of them.
        arrows = [(state, 0, to) for state in (2, 3) for to in (2, 3)] + [(0, 0, 2), (0, 0, 3), (2, 1, 4), (3, 1, 4)]
        machine = (5, sorted(arrows), [4])
        with in_seconds(self):
            self.assertIs(takes(machine, (0, [0] * 99 + [1])), True)
            self.assertIs(takes(machine, (0, [0] * 100)), False)
            self.assertIs(takes(machine, (0, [0] * 98 + [1, 0])), False)

    def test_all_short_standings_of_machines_by_chance(self):
        chance = random.Random(6)
        for turn in range(40):
            machine = some_machine(chance, HOUSE, 5, 12, plain=turn % 2 == 0)
            for standing in standings(HOUSE, 4):
                self.assertIs(takes(machine, standing), has_path(machine, *standing), (machine, standing))

    def test_the_greatest_machine_promised(self):
        chance = random.Random(7)
        arrows = {(chance.randrange(400), 0, chance.randrange(400)) for _ in range(4000)}
        machine = (400, sorted(arrows | {(0, 299, 399)}), [399])
        with in_seconds(self):
            self.assertIs(takes(machine, (0, [0] * 100)), True)
            self.assertIs(takes(machine, (0, [0] * 99 + [298])), False)
            self.assertIs(takes(machine, (0, [299])), True)


class IsPlain(unittest.TestCase):
    def test_an_arrow_to_a_room(self):
        self.assertIs(is_plain(HOUSE, (3, [(0, 0, 1)], [2])), False)
        self.assertIs(is_plain(HOUSE, (3, [(0, 0, 2), (2, 0, 0)], [2])), False)
        self.assertIs(is_plain(HOUSE, (2, [(1, 2, 1)], [])), False)

    def test_one_such_arrow_among_others(self):
        for spot in range(3):
            arrows = [(2, 0, 3), (2, 1, 3), (2, 2, 3)]
            arrows[spot] = (2, spot, 1)
            self.assertIs(is_plain(HOUSE, (4, arrows, [3])), False)

    def test_no_arrow_to_a_room(self):
        self.assertIs(is_plain(HOUSE, (3, [(0, 0, 2), (1, 0, 2), (2, 0, 2)], [2])), True)
        self.assertIs(is_plain(HOUSE, (4, [(0, 1, 2), (2, 1, 3)], [0, 1, 3])), True)

    def test_no_arrow_at_all(self):
        self.assertIs(is_plain(HOUSE, (2, [], [])), True)
        self.assertIs(is_plain(HOUSE, (2, [], [0, 1])), True)

    def test_how_many_rooms_there_are_tells_it(self):
        machine = (4, [(0, 0, 2)], [2])
        self.assertIs(is_plain((2, 1, []), machine), True)
        self.assertIs(is_plain((3, 1, []), machine), False)
        self.assertIs(is_plain((1, 1, []), machine), True)


class Common(unittest.TestCase):
    def check(self, house, one, other, length):
        for first, second in ((one, other), (other, one)):
            given = common(house, first, second)
            self.assertIs(type(given), tuple)
            self.assertIs(type(given[1]), list)
            self.assertIn(given[0], range(house[0]))
            self.assertTrue(has_path(one, *given), given)
            self.assertTrue(has_path(other, *given), given)
            self.assertEqual(len(given[1]), length)

    def test_a_standing_that_both_take(self):
        one = (4, [(0, 0, 2), (1, 1, 2), (2, 0, 3)], [3])
        other = (4, [(0, 1, 3), (1, 1, 2), (2, 0, 3)], [3])
        self.assertEqual(common(HOUSE, one, other), (1, [1, 0]))
        self.check(HOUSE, one, other, 2)

    def test_the_top_sign_comes_first(self):
        machine = (5, [(0, 0, 2), (2, 1, 3), (3, 2, 4)], [4])
        self.assertEqual(common(HOUSE, machine, machine), (0, [0, 1, 2]))

    def test_as_short_as_any(self):
        # Both take [0, 0, 1] and [2, 1] in room 0, and one of them [1] as well.
        one = (5, [(0, 0, 2), (0, 1, 4), (0, 2, 3), (2, 0, 3), (3, 1, 4)], [4])
        other = (5, [(0, 0, 2), (0, 2, 3), (2, 0, 3), (3, 1, 4)], [4])
        self.assertEqual(common(HOUSE, one, other), (0, [2, 1]))
        self.check(HOUSE, one, other, 2)

    def test_as_short_as_any_in_another_room(self):
        machine = (4, [(0, 0, 3), (1, 2, 2), (3, 0, 2)], [2])
        self.assertEqual(common(HOUSE, machine, machine), (1, [2]))

    def test_an_empty_stack(self):
        self.assertEqual(common(HOUSE, (3, [(0, 0, 2)], [1, 2]), (3, [(0, 0, 2)], [1, 2])), (1, []))
        self.assertEqual(common(HOUSE, (2, [], [0]), (2, [], [0])), (0, []))
        self.check(HOUSE, (2, [], [0, 1]), (2, [(0, 0, 1)], [0, 1]), 0)

    def test_an_end_of_one_alone_does_not_count(self):
        one = (3, [(0, 0, 2)], [0, 2])
        other = (3, [(0, 0, 2)], [1, 2])
        self.assertEqual(common(HOUSE, one, other), (0, [0]))

    def test_none(self):
        one = (3, [(0, 0, 2), (2, 0, 2)], [2])
        other = (3, [(0, 1, 2), (1, 0, 2), (2, 0, 2)], [2])
        for first, second in ((one, other), (other, one)):
            self.assertIsNone(common(HOUSE, first, second))
        self.assertIsNone(common(HOUSE, one, (3, [(0, 0, 2), (2, 0, 2)], [])))
        self.assertIsNone(common(HOUSE, (2, [], []), (2, [], [])))
        self.assertIsNone(common(HOUSE, (2, [], [0]), (2, [], [1])))

    def test_none_where_both_have_rings(self):
        # One takes stacks of an odd length, the other of an even one.
        one = (4, [(0, 0, 2), (2, 0, 3), (3, 0, 2)], [2])
        other = (4, [(0, 0, 2), (2, 0, 3), (3, 0, 2)], [3])
        self.assertIsNone(common(HOUSE, one, other))

    def test_none_where_only_states_that_are_no_rooms_could_begin(self):
        machine = (4, [(2, 0, 3)], [2, 3])
        self.assertIsNone(common(HOUSE, machine, machine))

    def test_the_rooms_are_those_of_the_house(self):
        machine = (4, [(2, 0, 3)], [3])
        self.assertIsNone(common((2, 1, []), machine, machine))
        self.assertEqual(common((3, 1, []), machine, machine), (2, [0]))

    def test_machines_that_are_not_plain(self):
        one = (2, [(0, 0, 1), (1, 1, 0)], [1])
        other = (3, [(0, 0, 1), (1, 1, 0), (0, 2, 2)], [2])
        self.assertIsNone(common(HOUSE, one, other))
        ring = (2, [(0, 0, 0), (0, 1, 1)], [1])
        twice = (3, [(0, 0, 2), (0, 1, 0), (2, 0, 0)], [0])
        self.assertEqual(common(HOUSE, ring, twice), (0, [1]))
        thrice = (5, [(0, 0, 2), (2, 0, 3), (3, 0, 0), (3, 1, 4)], [4])
        self.assertEqual(common(HOUSE, ring, thrice), (0, [0, 0, 1]))
        self.check(HOUSE, ring, thrice, 3)

    def test_one_plain_and_one_not(self):
        one = (2, [(0, 0, 1), (1, 1, 0)], [0])
        other = (5, [(0, 0, 2), (2, 1, 3), (3, 0, 4)], [3, 4])
        self.check(HOUSE, one, other, 2)

    def test_several_arrows_of_one_state_and_sign(self):
        one = (5, [(0, 0, 2), (0, 0, 3), (2, 1, 4), (3, 2, 4)], [4])
        other = (5, [(0, 0, 2), (0, 0, 3), (2, 2, 4), (3, 0, 4)], [4])
        self.assertEqual(common(HOUSE, one, other), (0, [0, 2]))
        self.assertEqual(common(HOUSE, other, one), (0, [0, 2]))

    def test_machines_of_unlike_many_states(self):
        one = (6, [(0, 0, 5), (5, 1, 4)], [4])
        other = (3, [(0, 0, 2), (2, 1, 2)], [2])
        self.check(HOUSE, one, other, 2)

    def test_machines_by_chance_against_all_short_standings(self):
        chance = random.Random(17)
        lengths = []
        for turn in range(300):
            one = some_machine(chance, HOUSE, 5, 6, plain=turn % 2 == 0, ends=1)
            other = some_machine(chance, HOUSE, 6, 7, plain=turn % 3 == 0, ends=1)
            shared = [len(stack) for room, stack in standings(HOUSE, 4)
                      if has_path(one, room, stack) and has_path(other, room, stack)]
            if shared:
                self.check(HOUSE, one, other, min(shared))
                lengths.append(min(shared))
            else:
                given = common(HOUSE, one, other)
                self.assertTrue(given is None or len(given[1]) > 4 and takes(one, given) and takes(other, given))
        # So that the machines thrown do not all have it easy.
        self.assertLessEqual({0, 1, 2, 3}, set(lengths))

    def test_a_stack_as_long_as_two_rings_ask_for(self):
        def ring(states):
            return (states, [(state, 0, (state + 1) % states) for state in range(states)], [states - 1])
        with in_seconds(self):
            given = common((8, 1, []), ring(400), ring(399))
        # The shortest is that of the room nearest below both ends.
        lengths = [length for length in range(400 * 399) for room in range(8)
                   if (room + length) % 400 == 399 and (room + length) % 399 == 398]
        self.assertEqual(len(given[1]), min(lengths))
        self.assertEqual((given[0] + len(given[1])) % 400, 399)
        self.assertEqual((given[0] + len(given[1])) % 399, 398)

    def test_the_greatest_machines_promised(self):
        chance = random.Random(18)
        for signs in (1, 10, 300):
            with self.subTest(signs=signs):
                house = (8, signs, [])
                one = some_machine(chance, house, 400, 4000, plain=False)
                other = some_machine(chance, house, 400, 4000, plain=False)
                with in_seconds(self):
                    self.assertIsNone(common(house, one, (other[0], other[1], [])))
                    given = common(house, one, (other[0], other[1], list(range(400))))
                self.assertTrue(given is None or takes(one, given))


if __name__ == "__main__":
    unittest.main()
