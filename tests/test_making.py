"""Plain machines that are made: point [7], callwalk/making.py."""

import copy
import random
import unittest

from callwalk.errors import NotPlain
from callwalk.machines import takes
from callwalk.making import ending, heading, joining, listing
from helper import check_plain, has_path, in_seconds, some_machine, standings

HOUSE = (2, 3, [(0, 0, 1, (1, 2)), (1, 1, 0, ())])
ONE_ROOM = (1, 1, [])


class Made(unittest.TestCase):
    def check(self, house, machine, is_told, longest=4):
        check_plain(self, house, machine)
        for standing in standings(house, longest):
            self.assertIs(takes(machine, standing), is_told(standing), standing)


class Listing(Made):
    def check_listing(self, house, told, longest=4):
        machine = listing(house, told)
        self.check(house, machine, lambda standing: standing in told, longest)
        return machine

    def test_one_standing(self):
        self.check_listing(HOUSE, [(0, [0, 1, 2])])
        self.check_listing(HOUSE, [(1, [2])])

    def test_one_of_the_same_sign_again_and_again(self):
        self.check_listing(ONE_ROOM, [(0, [0, 0, 0])], longest=8)

    def test_an_ended_standing(self):
        self.check_listing(HOUSE, [(1, [])])
        self.check_listing(HOUSE, [(0, []), (1, [])])

    def test_ended_and_other_standings(self):
        self.check_listing(HOUSE, [(1, [0]), (0, []), (1, [])])
        self.check_listing(HOUSE, [(0, [2, 1]), (1, [])])

    def test_stacks_that_begin_or_end_alike(self):
        self.check_listing(HOUSE, [(0, [0, 1]), (0, [0, 2]), (0, [0])])
        self.check_listing(HOUSE, [(0, [0, 1]), (0, [2, 1]), (0, [1])])
        self.check_listing(HOUSE, [(0, [0, 1, 2]), (1, [2, 1, 2]), (0, [1, 2]), (1, [1, 0])])
        self.check_listing(HOUSE, [(0, [0, 0, 1]), (0, [1, 0, 0]), (0, [0, 1, 0])])

    def test_the_same_stack_in_one_room_and_not_in_the_other(self):
        self.check_listing(HOUSE, [(0, [0, 1]), (1, [1, 1])])

    def test_standings_that_come_twice(self):
        self.check_listing(HOUSE, [(0, [0, 1]), (1, []), (0, [0, 1]), (1, []), (0, [0, 1])])
        self.assertEqual(listing(HOUSE, [(0, [0, 1]), (1, [])] * 3), listing(HOUSE, [(0, [0, 1]), (1, [])]))

    def test_an_empty_list(self):
        self.check_listing(HOUSE, [])
        self.check_listing(ONE_ROOM, [])

    def test_lists_by_chance(self):
        chance = random.Random(71)
        short = list(standings(HOUSE, 3))
        for turn in range(60):
            self.check_listing(HOUSE, [chance.choice(short) for _ in range(chance.randrange(12))])

    def test_a_long_stack(self):
        stack = [number % 3 for number in range(100)]
        machine = self.check_listing(HOUSE, [(1, stack)])
        self.assertIs(takes(machine, (1, stack)), True)
        self.assertIs(takes(machine, (0, stack)), False)
        self.assertIs(takes(machine, (1, stack[:-1])), False)
        self.assertIs(takes(machine, (1, stack[1:])), False)
        self.assertIs(takes(machine, (1, stack + [1])), False)

    def test_the_longest_list_promised(self):
        chance = random.Random(72)
        house = (8, 300, [])
        told = [(chance.randrange(8), [chance.randrange(300) for _ in range(100)]) for _ in range(400)]
        with in_seconds(self):
            machine = listing(house, told)
        check_plain(self, house, machine)
        for room, stack in told[::40]:
            self.assertIs(takes(machine, (room, stack)), True)
            self.assertIs(takes(machine, (room, stack[:50])), False)
            self.assertIs(takes(machine, ((room + 1) % 8, stack)), False)

    def test_short_standings_do_not_make_more_states_than_are_promised(self):
        told = [(number % 8, [number % 300]) for number in range(400)]
        machine = listing((8, 300, []), told)
        self.assertLessEqual(machine[0], 400)


class Heading(Made):
    def check_heading(self, house, heads):
        machine = heading(house, heads)
        self.check(house, machine, lambda standing: (standing[0], *standing[1][:1]) in heads)
        return machine

    def test_some_heads_whatever_lies_beneath(self):
        self.check_heading(HOUSE, [(0, 0)])
        self.check_heading(HOUSE, [(1, 2), (0, 1), (0, 0)])

    def test_all_heads(self):
        self.check_heading(HOUSE, [(room, sign) for room in range(2) for sign in range(3)])

    def test_heads_that_come_twice(self):
        self.check_heading(HOUSE, [(1, 1), (0, 2), (1, 1), (1, 1)])
        self.assertEqual(heading(HOUSE, [(1, 1), (0, 2)] * 2), heading(HOUSE, [(1, 1), (0, 2)]))

    def test_an_empty_list(self):
        self.check_heading(HOUSE, [])
        self.check_heading(ONE_ROOM, [])

    def test_no_ended_standing_has_a_head(self):
        machine = heading(HOUSE, [(0, 0), (0, 1), (0, 2)])
        self.assertIs(takes(machine, (0, [])), False)

    def test_a_long_stack(self):
        machine = heading(HOUSE, [(1, 2)])
        beneath = [number % 3 for number in range(99)]
        self.assertIs(takes(machine, (1, [2] + beneath)), True)
        self.assertIs(takes(machine, (1, [1] + beneath)), False)
        self.assertIs(takes(machine, (0, [2] + beneath)), False)

    def test_the_longest_list_promised(self):
        heads = [(number % 8, number % 300) for number in range(400)]
        with in_seconds(self):
            machine = heading((8, 300, []), heads)
        check_plain(self, (8, 300, []), machine)
        self.assertLessEqual(machine[0], 400)
        self.assertLessEqual(len(machine[1]), 4000)
        for room in range(8):
            for sign in range(300):
                self.assertIs(takes(machine, (room, [sign, 299, 0])), (room, sign) in heads)


class Ending(Made):
    def check_ending(self, house, rooms):
        self.check(house, ending(house, rooms), lambda standing: standing[1] == [] and standing[0] in rooms)

    def test_some_rooms(self):
        self.check_ending(HOUSE, [0])
        self.check_ending(HOUSE, [1])
        self.check_ending((3, 2, []), [2, 0])

    def test_all_rooms_in_whatever_order(self):
        self.check_ending(HOUSE, [1, 0])
        self.check_ending(HOUSE, [0, 1])

    def test_rooms_that_come_twice(self):
        self.check_ending(HOUSE, [1, 1])
        self.check_ending((3, 2, []), [2, 1, 2, 1, 1])

    def test_an_empty_list(self):
        self.check_ending(HOUSE, [])
        self.check_ending(ONE_ROOM, [])

    def test_a_long_list(self):
        self.check_ending((8, 1, []), [7, 3, 5] * 130)


class Joining(Made):
    def check_joining(self, house, one, other):
        for first, second in ((one, other), (other, one)):
            self.check(house, joining(house, first, second),
                       lambda standing: has_path(one, *standing) or has_path(other, *standing), 4)

    def test_what_one_of_the_two_takes(self):
        self.check_joining(HOUSE, listing(HOUSE, [(0, [0, 1])]), listing(HOUSE, [(1, [2])]))
        self.check_joining(HOUSE, heading(HOUSE, [(0, 1)]), listing(HOUSE, [(0, [0, 0, 2]), (1, [])]))

    def test_what_both_take(self):
        machine = listing(HOUSE, [(0, [0, 1]), (1, [])])
        self.check_joining(HOUSE, machine, machine)
        self.check_joining(HOUSE, heading(HOUSE, [(0, 0)]), listing(HOUSE, [(0, [0, 1]), (0, [1])]))

    def test_nothing_that_goes_half_by_one_and_half_by_the_other(self):
        one = (4, [(0, 0, 2), (2, 1, 3)], [3])
        other = (4, [(0, 1, 2), (2, 2, 3)], [3])
        self.check_joining(HOUSE, one, other)

    def test_nothing_of_an_end_of_the_other(self):
        # State 2 is an end of one of the two alone.
        self.check_joining(HOUSE, (4, [(0, 0, 2), (2, 0, 3)], [3]), (3, [(0, 1, 2)], [2]))

    def test_rooms_among_the_ends(self):
        self.check_joining(HOUSE, ending(HOUSE, [0]), ending(HOUSE, [1]))
        self.check_joining(HOUSE, ending(HOUSE, [0, 1]), ending(HOUSE, [1]))
        self.check_joining(HOUSE, ending(HOUSE, [0]), heading(HOUSE, [(0, 0)]))
        self.check_joining(HOUSE, (3, [(0, 0, 2)], [0, 2]), (3, [(1, 0, 2), (2, 1, 2)], [1, 2]))

    def test_machines_that_take_nothing(self):
        self.check_joining(HOUSE, (2, [], []), (2, [], []))
        self.check_joining(HOUSE, (2, [], []), heading(HOUSE, [(0, 0), (1, 2)]))
        self.check_joining(HOUSE, (5, [(3, 0, 4)], [3, 4]), listing(HOUSE, [(0, [0])]))

    def test_machines_by_chance(self):
        chance = random.Random(73)
        for turn in range(60):
            one = some_machine(chance, HOUSE, 2 + turn % 4, 6, plain=True)
            other = some_machine(chance, HOUSE, 2 + turn % 5, 6, plain=True)
            self.check_joining(HOUSE, one, other)

    def test_one_joined_again_and_again(self):
        machine = ending(HOUSE, [])
        told = [(0, [0, 1]), (1, []), (1, [2, 2, 2]), (0, [0, 1])]
        for standing in told:
            machine = joining(HOUSE, machine, listing(HOUSE, [standing]))
        self.check(HOUSE, machine, lambda standing: standing in told)

    def test_the_greatest_machines_promised(self):
        chance = random.Random(74)
        house = (8, 300, [])
        one = some_machine(chance, house, 400, 4000, plain=True, ends=50)
        other = some_machine(chance, house, 400, 4000, plain=True, ends=50)
        with in_seconds(self):
            machine = joining(house, one, other)
        check_plain(self, house, machine)
        for sign in range(0, 300, 7):
            for room in (0, 7):
                standing = (room, [sign])
                self.assertIs(takes(machine, standing), has_path(one, *standing) or has_path(other, *standing))


class Refused(unittest.TestCase):
    PLAIN = (3, [(0, 0, 2)], [2])
    NOT_PLAIN = ((3, [(0, 0, 1)], [2]), (3, [(0, 0, 2), (2, 1, 0)], [2]), (2, [(1, 1, 1)], []))

    def refuse(self, one, other):
        handed = copy.deepcopy((HOUSE, one, other))
        with self.assertRaises(NotPlain) as taken:
            joining(*handed)
        self.assertIs(type(taken.exception), NotPlain)
        self.assertEqual(handed, (HOUSE, one, other))

    def test_the_first_is_not_plain(self):
        for machine in self.NOT_PLAIN:
            self.refuse(machine, self.PLAIN)

    def test_the_second_is_not_plain(self):
        for machine in self.NOT_PLAIN:
            self.refuse(self.PLAIN, machine)

    def test_both_are_not_plain(self):
        for one in self.NOT_PLAIN:
            for other in self.NOT_PLAIN:
                self.refuse(one, other)

    def test_an_arrow_to_the_last_room(self):
        house = (3, 1, [])
        self.assertEqual(joining(house, (4, [(0, 0, 3)], [3]), (3, [], []))[1], [(0, 0, 3)])
        with self.assertRaises(NotPlain):
            joining(house, (4, [(0, 0, 2)], [3]), (3, [], []))


if __name__ == "__main__":
    unittest.main()
