"""Leaks, and forward of a plain machine: points [11] and [12], callwalk/forward.py."""

import copy
import random
import unittest

from callwalk.errors import NotPlain
from callwalk.forward import forward, leak
from callwalk.houses import steps
from callwalk.machines import common, takes
from callwalk.making import ending, heading, listing
from callwalk.prices import prices
from helper import check_plain, doubling, in_seconds, levels, some_house, some_machine, standings


def is_kept(machine, rule, arrow):
    # Straight by the words of [11].
    states, arrows, ends = machine
    q, put, s = rule[2], rule[3], arrow[2]
    if len(put) == 0:
        return all((q, b, t) in arrows for start, b, t in arrows if start == s) and (s not in ends or q in ends)
    if len(put) == 1:
        return (q, put[0], s) in arrows
    return any((q, put[0], m) in arrows and (m, put[1], s) in arrows for m in range(states))


def first_leak(house, machine):
    for number, rule in enumerate(house[2]):
        for arrow in machine[1]:
            if arrow[:2] == rule[:2] and not is_kept(machine, rule, arrow):
                return (number, arrow)
    return None


def leads_to(house, machine, standing):
    # Whether some run leads to the standing from one that the machine takes, looked for from behind: the priced arrows
    # of a machine that takes just this standing take all from which some run leads to it.
    wanted = listing(house, [standing])
    behind = (wanted[0], sorted(prices(house, wanted)), wanted[2])
    return common(house, machine, behind) is not None


class Leak(unittest.TestCase):
    def test_a_machine_without_arrows_is_closed(self):
        house = (2, 2, [(0, 0, 1, ()), (0, 1, 0, (1,)), (1, 0, 0, (0, 1))])
        for machine in ((2, [], []), (2, [], [0, 1]), (4, [], [1, 3])):
            self.assertIsNone(leak(house, machine))

    def test_a_house_without_rules(self):
        self.assertIsNone(leak((2, 2, []), (3, [(0, 0, 2), (1, 1, 0), (2, 0, 2)], [2])))

    def test_rules_whose_head_has_no_arrow(self):
        house = (2, 2, [(0, 0, 1, ()), (1, 1, 0, (1,)), (1, 0, 0, (0, 1))])
        self.assertIsNone(leak(house, (3, [(0, 1, 2), (2, 0, 2), (2, 1, 2)], [2])))

    def test_an_empty_put(self):
        house = (2, 2, [(0, 0, 1, ())])
        self.assertIsNone(leak(house, (4, [(0, 0, 2)], [])))
        self.assertEqual(leak(house, (4, [(0, 0, 2), (2, 1, 3)], [])), (0, (0, 0, 2)))
        self.assertIsNone(leak(house, (4, [(0, 0, 2), (1, 1, 3), (2, 1, 3)], [])))
        for wrong in ((0, 1, 3), (1, 0, 3), (1, 1, 2)):
            machine = (4, sorted([(0, 0, 2), (2, 1, 3), wrong]), [])
            self.assertEqual(leak(house, machine), (0, (0, 0, 2)))

    def test_an_empty_put_with_several_arrows_beyond(self):
        house = (2, 2, [(0, 0, 1, ())])
        beyond = [(2, 0, 2), (2, 0, 3), (2, 1, 3)]
        all_there = [(1, sign, to) for state, sign, to in beyond]
        self.assertIsNone(leak(house, (4, sorted([(0, 0, 2)] + beyond + all_there), [])))
        for missing in all_there:
            there = [arrow for arrow in all_there if arrow != missing]
            self.assertEqual(leak(house, (4, sorted([(0, 0, 2)] + beyond + there), [])), (0, (0, 0, 2)))

    def test_an_end_that_is_missing(self):
        house = (2, 1, [(0, 0, 1, ())])
        self.assertEqual(leak(house, (3, [(0, 0, 2)], [2])), (0, (0, 0, 2)))
        self.assertEqual(leak(house, (3, [(0, 0, 2)], [0, 2])), (0, (0, 0, 2)))
        self.assertIsNone(leak(house, (3, [(0, 0, 2)], [1, 2])))
        self.assertIsNone(leak(house, (3, [(0, 0, 2)], [1])))
        self.assertIsNone(leak(house, (3, [(0, 0, 2)], [])))

    def test_an_end_matters_for_an_empty_put_alone(self):
        house = (2, 2, [(0, 0, 1, (1,)), (0, 0, 1, (1, 0))])
        self.assertIsNone(leak(house, (4, [(0, 0, 2), (1, 1, 2), (1, 1, 3), (3, 0, 2)], [2])))

    def test_a_put_of_one_sign(self):
        house = (2, 2, [(0, 0, 1, (1,))])
        self.assertIsNone(leak(house, (4, [(0, 0, 2), (1, 1, 2)], [2])))
        self.assertIsNone(leak(house, (4, [(0, 0, 2), (0, 0, 3), (1, 1, 2), (1, 1, 3)], [2])))
        for wrong in ((0, 1, 2), (1, 0, 2), (1, 1, 3), (2, 1, 1)):
            self.assertEqual(leak(house, (4, sorted([(0, 0, 2), wrong]), [2])), (0, (0, 0, 2)))

    def test_a_put_of_two_signs(self):
        house = (2, 3, [(0, 0, 1, (1, 2))])
        self.assertIsNone(leak(house, (5, [(0, 0, 2), (1, 1, 3), (3, 2, 2)], [2])))
        # Over any state, a room or the arrow's own too, and over one that is not the first of several.
        self.assertIsNone(leak(house, (3, [(0, 0, 2), (1, 1, 0), (0, 2, 2)], [2])))
        self.assertIsNone(leak(house, (3, [(0, 0, 2), (1, 1, 2), (2, 2, 2)], [2])))
        self.assertIsNone(leak(house, (5, [(0, 0, 2), (1, 1, 2), (1, 1, 3), (1, 1, 4), (3, 2, 2), (4, 2, 4)], [2])))
        for wrong in ([(1, 1, 3)], [(3, 2, 2)], [(1, 1, 3), (4, 2, 2)], [(1, 2, 3), (3, 1, 2)], [(1, 1, 3), (3, 1, 2)],
                      [(1, 1, 3), (3, 2, 3)], [(0, 1, 3), (3, 2, 2)]):
            self.assertEqual(leak(house, (5, sorted([(0, 0, 2)] + wrong), [2])), (0, (0, 0, 2)))

    def test_several_states_between_for_several_arrows(self):
        house = (2, 3, [(0, 0, 1, (1, 2))])
        arrows = [(0, 0, 2), (0, 0, 3), (1, 1, 4), (1, 1, 5), (4, 2, 2), (5, 2, 3)]
        self.assertIsNone(leak(house, (6, arrows, [2])))
        self.assertEqual(leak(house, (6, arrows[:-1], [2])), (0, (0, 0, 3)))
        self.assertEqual(leak(house, (6, arrows[:-2] + arrows[-1:], [2])), (0, (0, 0, 2)))

    def test_the_first_by_the_number_of_the_rule(self):
        arrows = [(0, 0, 2), (0, 1, 2)]
        rules = [(0, 0, 0, (0,)), (0, 1, 1, (1,)), (0, 0, 1, (0,)), (0, 0, 1, ())]
        self.assertEqual(leak((2, 2, rules), (3, arrows, [2])), (1, (0, 1, 2)))
        self.assertEqual(leak((2, 2, rules[:1] + rules[2:]), (3, arrows, [2])), (1, (0, 0, 2)))
        self.assertEqual(leak((2, 2, rules[::-1]), (3, arrows, [2])), (0, (0, 0, 2)))
        self.assertEqual(leak((2, 2, rules[1:2] * 2), (3, arrows, [2])), (0, (0, 1, 2)))

    def test_then_by_the_arrow(self):
        arrows = [(0, 0, 2), (0, 0, 3), (0, 0, 4), (1, 1, 2)]
        for put in ((1,), (1, 0)):
            given = arrows + [(2, 0, 2)] if len(put) == 2 else arrows
            self.assertEqual(leak((2, 2, [(0, 0, 1, put)]), (5, given, [2])), (0, (0, 0, 3)))
        # Of an empty put, state 2 goes on nowhere, 3 as room 1 does, and 4 and 5 otherwise.
        arrows = [(0, 0, 2), (0, 0, 3), (0, 0, 4), (0, 0, 5), (1, 1, 2), (3, 1, 2), (4, 0, 2), (5, 0, 2)]
        self.assertEqual(leak((2, 2, [(0, 0, 1, ())]), (6, arrows, [])), (0, (0, 0, 4)))

    def test_states_of_two_figures(self):
        # As numbers 9 is ahead of 10, as texts behind it.
        machine = (12, [(0, 0, 9), (0, 0, 10)], [11])
        self.assertEqual(leak((1, 2, [(0, 0, 0, (1,))]), machine), (0, (0, 0, 9)))

    def test_machines_that_are_not_plain(self):
        house = (2, 1, [(0, 0, 1, ())])
        self.assertIsNone(leak(house, (2, [(0, 0, 1)], [1])))
        self.assertIsNone(leak(house, (2, [(0, 0, 0), (1, 0, 0)], [])))
        self.assertEqual(leak(house, (2, [(0, 0, 0)], [])), (0, (0, 0, 0)))
        self.assertEqual(leak(house, (2, [(0, 0, 0), (1, 0, 0)], [0])), (0, (0, 0, 0)))

    def test_machines_that_are_made(self):
        house = (2, 2, [(0, 0, 0, (0, 1)), (0, 0, 1, ()), (1, 1, 0, (0,))])
        self.assertEqual(leak(house, heading(house, [(0, 0)])), (1, (0, 0, 2)))
        self.assertIsNone(leak(house, ending(house, [0])))
        self.assertEqual(leak(house, listing(house, [(0, [0])])), (0, (0, 0, 2)))

    def test_against_the_words(self):
        chance = random.Random(111)
        seen = {}
        for turn in range(3000):
            house = some_house(chance, 1 + turn % 3, 1 + turn % 3, 1 + turn % 6)
            # Some with so many arrows that few are missing.
            machine = some_machine(chance, house, house[0] + turn % 4, (turn % 11) ** 2, plain=turn % 2 == 0,
                                   ends=turn % 5)
            given = leak(house, machine)
            self.assertEqual(given, first_leak(house, machine))
            kind = None
            if given is not None:
                self.assertEqual((type(given), type(given[0]), type(given[1])), (tuple, int, tuple))
                kind = (len(house[2][given[0]][3]), min(given[0], 2))
            seen[kind] = seen.get(kind, 0) + 1
        self.assertEqual(len(seen), 10)
        self.assertGreater(min(seen.values()), 20)


class Checked(unittest.TestCase):
    def check(self, house, machine):
        given = forward(house, machine)
        check_plain(self, house, given)
        self.assertGreaterEqual(given[0], machine[0])
        self.assertLessEqual(set(machine[1]), set(given[1]))
        self.assertLessEqual(set(machine[2]), set(given[2]))
        self.assertIsNone(leak(house, given))
        return given


class Forward(Checked):
    def check_taken(self, house, machine, length):
        given = self.check(house, machine)
        self.assertIsNone(first_leak(house, given))
        taken = [0, 0]
        for standing in standings(house, length):
            expected = leads_to(house, machine, standing)
            self.assertIs(takes(given, standing), expected)
            taken[expected] += 1
        return taken

    def test_what_is_closed_stays_as_it_is(self):
        house = (2, 2, [(0, 0, 1, ()), (0, 1, 0, (1,))])
        for machine in ((2, [], []), (2, [], [0, 1]), (4, [], [3]), (4, [(0, 1, 2), (1, 0, 2)], [2]),
                        (3, [(0, 0, 2)], [1, 2])):
            self.assertEqual(self.check(house, machine)[1:], machine[1:])

    def test_a_house_without_rules(self):
        machine = (4, [(0, 0, 2), (0, 0, 3), (3, 1, 2)], [1, 2])
        self.assertEqual(forward((2, 2, []), machine), machine)

    def test_an_empty_put(self):
        house = (2, 2, [(0, 0, 1, ())])
        given = self.check(house, listing(house, [(0, [0, 1, 0]), (0, [0])]))
        self.assertTrue(takes(given, (1, [1, 0])))
        self.assertTrue(takes(given, (1, [])))
        self.assertFalse(takes(given, (1, [1])))
        self.assertFalse(takes(given, (0, [])))
        self.check_taken(house, listing(house, [(0, [0, 1, 0]), (0, [0])]), 4)

    def test_an_end_is_added(self):
        house = (3, 1, [(0, 0, 1, ())])
        self.assertEqual(forward(house, (4, [(0, 0, 3)], [3])), (4, [(0, 0, 3)], [1, 3]))
        self.assertEqual(forward(house, (4, [(0, 0, 3)], [2])), (4, [(0, 0, 3)], [2]))
        self.assertEqual(forward(house, (4, [(0, 0, 3), (3, 0, 3)], [3]))[2], [1, 3])

    def test_a_put_of_one_sign(self):
        house = (2, 3, [(0, 0, 1, (1,)), (1, 1, 0, (2,))])
        given = self.check(house, (3, [(0, 0, 2)], [2]))
        self.assertEqual(given, (3, [(0, 0, 2), (0, 2, 2), (1, 1, 2)], [2]))

    def test_a_put_of_two_signs(self):
        house = (2, 3, [(0, 0, 1, (1, 2))])
        machine = listing(house, [(0, [0, 0])])
        given = self.check(house, machine)
        self.assertGreater(given[0], machine[0])
        self.assertEqual([standing for standing in standings(house, 4) if takes(given, standing)],
                         [(0, [0, 0]), (1, [1, 2, 0])])

    def test_the_first_sign_of_a_call_is_gone(self):
        house = (2, 3, [(0, 0, 1, (1, 2)), (1, 1, 0, ()), (0, 2, 1, ())])
        given = self.check(house, listing(house, [(0, [0, 2])]))
        self.assertEqual([standing for standing in standings(house, 4) if takes(given, standing)],
                         [(0, [0, 2]), (0, [2, 2]), (1, [2]), (1, [1, 2, 2])])

    def test_what_lies_beneath_two_calls_is_not_taken_for_one_another(self):
        # Both rules call (1, 2), one above sign 3, one above sign 4, from stacks with 5 or 6 beneath.
        house = (2, 7, [(0, 0, 1, (2, 3)), (0, 1, 1, (2, 4)), (1, 2, 0, ())])
        given = self.check(house, listing(house, [(0, [0, 5]), (0, [1, 6])]))
        self.assertEqual([standing for standing in standings(house, 3) if takes(given, standing)],
                         [(0, [0, 5]), (0, [1, 6]), (0, [3, 5]), (0, [4, 6]), (1, [2, 3, 5]), (1, [2, 4, 6])])

    def test_a_second_sign_that_becomes_reachable_late(self):
        # The arrow behind the call comes when the room already goes on as the state between.
        house = (2, 4, [(0, 0, 1, (1, 2)), (1, 1, 0, ()), (0, 2, 0, (3,)), (0, 3, 1, (1, 0))])
        self.check_taken(house, listing(house, [(0, [0])]), 4)

    def test_stacks_without_end(self):
        house = (1, 2, [(0, 0, 0, (0, 1))])
        given = self.check(house, listing(house, [(0, [0])]))
        for length in (0, 1, 5, 90):
            self.assertTrue(takes(given, (0, [0] + [1] * length)))
            self.assertFalse(takes(given, (0, [1] * length)))
            self.assertFalse(takes(given, (0, [0, 0] + [1] * length)))

    def test_runs_of_very_many_steps(self):
        house = doubling(300)
        given = self.check(house, listing(house, [(0, [299])]))
        self.assertTrue(takes(given, (0, [])))
        self.assertTrue(takes(given, (0, list(range(100)))))
        self.assertFalse(takes(given, (0, [1, 1, 1])))
        self.assertFalse(takes(given, (0, [299, 299])))

    def test_the_same_rule_more_than_once(self):
        house = (2, 2, [(0, 0, 1, (1, 1)), (1, 1, 0, ()), (0, 1, 0, (0,))])
        twice = (2, 2, house[2] * 2)
        machine = listing(house, [(0, [0])])
        self.assertEqual(self.check_taken(house, machine, 4), self.check_taken(twice, machine, 4))

    def test_states_and_ends_that_nothing_leads_to(self):
        house = (2, 2, [(0, 0, 1, (1, 1)), (1, 1, 0, ())])
        machine = (9, [(0, 0, 5), (5, 0, 6), (6, 1, 5), (7, 0, 8)], [0, 6, 8])
        self.check_taken(house, machine, 4)

    def test_forward_of_forward(self):
        house = (2, 2, [(0, 0, 1, (1, 0)), (1, 1, 0, ()), (0, 1, 1, (0,))])
        once = self.check(house, listing(house, [(0, [0, 1])]))
        again = self.check(house, once)
        for standing in standings(house, 5):
            self.assertEqual(takes(once, standing), takes(again, standing))

    def test_machines_that_are_made(self):
        house = (2, 3, [(0, 0, 1, (1, 2)), (1, 1, 0, ()), (0, 2, 0, (0, 0)), (1, 1, 1, (2,)), (0, 0, 0, ())])
        self.check_taken(house, listing(house, [(0, [0, 1, 2]), (1, []), (1, [2])]), 4)
        self.check_taken(house, heading(house, [(1, 2), (0, 1)]), 3)
        self.check_taken(house, ending(house, [0, 1]), 3)

    def test_what_runs_lead_to_is_taken(self):
        chance = random.Random(121)
        longest = 0
        for turn in range(150):
            house = some_house(chance, 1 + turn % 3, 2 + turn % 3, 3 + turn % 6)
            begun = [(chance.randrange(house[0]), [chance.randrange(house[1]) for _ in range(chance.randrange(4))])
                     for _ in range(1 + turn % 3)]
            given = self.check(house, listing(house, begun))
            for begin in begun:
                for count, here in enumerate(levels(house, begin, 7)):
                    for standing in here:
                        self.assertTrue(takes(given, standing))
                        longest = max(longest, count)
        self.assertEqual(longest, 7)

    def test_and_nothing_else(self):
        # Standings from which no run goes on without end, so that all that they lead to can be walked.
        chance = random.Random(122)
        walked = 0
        for turn in range(600):
            house = some_house(chance, 1 + turn % 3, 3, 2 + turn % 4)
            begin = (chance.randrange(house[0]), [chance.randrange(3) for _ in range(chance.randrange(4))])
            rows = list(levels(house, begin, 12))
            # Where the last row is empty, nothing new is come to any more.
            if not rows[-1]:
                there = sorted(standing for row in rows for standing in row)
                longest = max(len(stack) for room, stack in there)
                if longest <= 5:
                    given = self.check(house, listing(house, [begin]))
                    taken = [standing for standing in standings(house, longest + 1) if takes(given, standing)]
                    self.assertEqual(sorted(taken), there)
                    walked += len(there) > 3
        self.assertGreater(walked, 40)

    def test_houses_and_machines_by_chance(self):
        chance = random.Random(123)
        taken = [0, 0]
        for turn in range(250):
            house = some_house(chance, 1 + turn % 3, 1 + turn % 3, 2 + turn % 9)
            machine = some_machine(chance, house, house[0] + turn % 5, turn % 14, plain=True, ends=3)
            for kind, many in enumerate(self.check_taken(house, machine, 3)):
                taken[kind] += many
        self.assertGreater(min(taken), 1500)

    def test_no_step_leads_out(self):
        chance = random.Random(124)
        for turn in range(60):
            house = some_house(chance, 2, 3, 8)
            given = self.check(house, some_machine(chance, house, 5, 5, plain=True))
            for standing in standings(house, 4):
                if takes(given, standing):
                    for number, there in steps(house, standing):
                        self.assertTrue(takes(given, there))


class Refused(unittest.TestCase):
    def test_not_plain(self):
        house = (2, 3, [(0, 0, 1, (1, 2)), (1, 1, 0, ())])
        for machine in ((3, [(0, 0, 1)], [2]), (3, [(0, 0, 2), (2, 1, 0)], [2]), (2, [(1, 1, 1)], []),
                        (3, [(0, 0, 2), (0, 1, 2), (1, 1, 1), (2, 0, 2)], [2])):
            handed = copy.deepcopy((house, machine))
            with self.assertRaises(NotPlain) as taken:
                forward(*handed)
            self.assertIs(type(taken.exception), NotPlain)
            self.assertEqual(handed, (house, machine))

    def test_an_arrow_to_the_last_room_and_to_the_first_state_behind_it(self):
        with self.assertRaises(NotPlain):
            forward((3, 1, []), (4, [(0, 0, 2)], [3]))
        self.assertEqual(forward((3, 1, []), (4, [(0, 0, 3)], [3])), (4, [(0, 0, 3)], [3]))

    def test_a_closed_machine_that_is_not_plain(self):
        with self.assertRaises(NotPlain):
            forward((1, 1, []), (1, [(0, 0, 0)], [0]))


class Sizes(Checked):
    def check_quickly(self, house, machine):
        with in_seconds(self):
            return self.check(house, machine)

    def test_houses_and_machines_by_chance(self):
        chance = random.Random(125)
        for rooms, signs in ((8, 10), (8, 40), (2, 200), (8, 300)):
            with self.subTest(rooms=rooms, signs=signs):
                house = some_house(chance, rooms, signs, 800)
                machine = some_machine(chance, house, 400, 4000, plain=True, ends=40)
                self.check_quickly(house, machine)
                with in_seconds(self):
                    leak(house, machine)

    def test_very_many_arrows(self):
        # Two rules for each of so many heads, so that nearly all of them come to lead to nearly all states.
        chance = random.Random(126)
        heads = [(room, sign) for sign in range(50) for room in range(8)]
        rules = [(room, sign, chance.randrange(8), (chance.randrange(50), chance.randrange(50)))
                 for room, sign in heads]
        house = (8, 50, rules + [(room, sign, chance.randrange(8), ()) for room, sign in heads])
        given = self.check_quickly(house, some_machine(chance, house, 400, 4000, plain=True, ends=40))
        self.assertGreater(len(given[1]), 200000)

    def test_a_closed_machine_of_very_many_arrows(self):
        # All arrows from all rooms to so many states: each rule looks at all of them, and finds no leak.
        chance = random.Random(127)
        house = some_house(chance, 8, 4, 800)
        arrows = [(state, sign, to) for state in range(18) for sign in range(4) for to in range(8, 18)]
        machine = (18, arrows, list(range(18)))
        with in_seconds(self):
            self.assertIsNone(leak(house, machine))
        missing = (7, 3, 17)
        machine[1].remove(missing)
        with in_seconds(self):
            self.assertEqual(leak(house, machine), first_leak(house, machine))


if __name__ == "__main__":
    unittest.main()
