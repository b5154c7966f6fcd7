"""Wanted till then, head steps, the heads of a standing, rings: points [13] and [14], callwalk/heads.py."""

import random
import unittest

from callwalk.forward import forward
from callwalk.heads import head_steps, heads_of, ring, till
from callwalk.houses import steps
from callwalk.making import listing
from helper import (all_heads, check_ring, doubling, has_circle, head, heads_by_forward, in_seconds, levels,
                    some_house, some_standing, steps_by_words)


def till_by_runs(house, wanted, goal, begin, most):
    # Straight by the words of [13], over all runs of so many steps at the most.
    here = [begin]
    for count in range(most + 1):
        if any(head(standing) in goal for standing in here):
            return count
        ahead = {}
        for standing in here:
            if head(standing) in wanted:
                ahead.update({(room, tuple(stack)): True for number, (room, stack) in steps(house, standing)})
        here = [(room, list(stack)) for room, stack in ahead]
    return None


def heads_in(house, machine):
    # The heads of what the machine takes: of the arrows from rooms, those from which arrows lead on to an end.
    before = {}
    for start, sign, to in machine[1]:
        before.setdefault(to, set()).add(start)
    ending_there, due = set(), list(machine[2])
    while due:
        one = due.pop()
        if one not in ending_there:
            ending_there.add(one)
            due.extend(before.get(one, []))
    return sorted({(start, sign) for start, sign, to in machine[1] if start < house[0] and to in ending_there})


def runs_on(house, begin, count):
    # Whether some run has so many steps.
    here = [begin]
    for step in range(count):
        ahead = {}
        for standing in here:
            ahead.update({(room, tuple(stack)): True for number, (room, stack) in steps(house, standing)})
        here = [(room, list(stack)) for room, stack in ahead]
    return bool(here)


class Till(unittest.TestCase):
    # From sign 0 over 1 and 2 to 3, or over 4 straight to 3.
    HOUSE = (2, 6, [(0, 0, 0, (1,)), (0, 1, 0, (2,)), (0, 2, 1, (3,)), (0, 0, 0, (4,)), (0, 4, 1, (3,)), (1, 3, 0, ())])

    def test_a_goal_at_the_standing_itself(self):
        for wanted in ([], [(0, 0)], [(0, 1)], all_heads(self.HOUSE)):
            self.assertEqual(till(self.HOUSE, wanted, [(0, 0)], (0, [0, 1])), 0)
            self.assertEqual(till(self.HOUSE, wanted, [(0, 0)], (0, [0])), 0)
        self.assertIs(type(till(self.HOUSE, [], [(0, 0)], (0, [0]))), int)

    def test_a_goal_that_is_stuck(self):
        self.assertEqual(till(self.HOUSE, [], [(1, 5)], (1, [5])), 0)

    def test_one_step_from_a_wanted_head(self):
        self.assertEqual(till(self.HOUSE, [(0, 0)], [(0, 1)], (0, [0])), 1)
        self.assertIsNone(till(self.HOUSE, [], [(0, 1)], (0, [0])))
        self.assertIsNone(till(self.HOUSE, [(0, 1)], [(0, 1)], (0, [0])))
        self.assertIsNone(till(self.HOUSE, [(1, 0)], [(0, 1)], (0, [0])))

    def test_the_last_one_need_not_be_wanted(self):
        self.assertEqual(till(self.HOUSE, [(0, 0), (0, 4)], [(1, 3)], (0, [0])), 2)
        self.assertEqual(till(self.HOUSE, [(0, 0), (0, 4), (1, 3)], [(1, 3)], (0, [0])), 2)

    def test_a_standing_ahead_of_the_goal_that_is_not_wanted(self):
        self.assertEqual(till(self.HOUSE, [(0, 0), (0, 1), (0, 2)], [(1, 3)], (0, [0])), 3)
        for missing in ((0, 0), (0, 1), (0, 2)):
            wanted = [one for one in [(0, 0), (0, 1), (0, 2)] if one != missing]
            self.assertIsNone(till(self.HOUSE, wanted, [(1, 3)], (0, [0])))
        all_wanted = [(0, 0), (0, 1), (0, 2), (0, 4)]
        self.assertEqual(till(self.HOUSE, all_wanted, [(1, 3)], (0, [0])), 2)

    def test_a_head_is_a_room_and_a_sign(self):
        house = (2, 2, [(0, 0, 1, (0,)), (1, 0, 0, (1,))])
        self.assertEqual(till(house, [(0, 0), (1, 0)], [(0, 1)], (0, [0])), 2)
        self.assertIsNone(till(house, [(0, 0), (0, 1), (1, 1)], [(0, 1)], (0, [0])))
        self.assertEqual(till(house, [(0, 0)], [(1, 0)], (0, [0])), 1)
        self.assertIsNone(till(house, [(0, 0)], [(1, 1)], (0, [0])))

    def test_whatever_lies_beneath_the_goal(self):
        house = (1, 3, [(0, 0, 0, (1, 2)), (0, 1, 0, ())])
        self.assertEqual(till(house, [(0, 0)], [(0, 1)], (0, [0, 0, 2, 1])), 1)
        self.assertEqual(till(house, [(0, 0), (0, 1)], [(0, 2)], (0, [0, 0, 2, 1])), 2)
        self.assertEqual(till(house, [(0, 1)], [(0, 2)], (0, [1, 1, 1, 2])), 3)
        self.assertIsNone(till(house, [(0, 0)], [(0, 2)], (0, [0, 2])))

    def test_an_empty_stack(self):
        everything = all_heads(self.HOUSE)
        for room in (0, 1):
            self.assertIsNone(till(self.HOUSE, everything, everything, (room, [])))
        self.assertIsNone(till(self.HOUSE, [], [], (0, [])))

    def test_a_run_that_ends_ahead_of_the_goal(self):
        self.assertIsNone(till(self.HOUSE, all_heads(self.HOUSE), [(0, 5)], (0, [0])))
        self.assertEqual(till(self.HOUSE, all_heads(self.HOUSE), [(0, 5)], (0, [0, 5])), 3)

    def test_empty_lists(self):
        self.assertIsNone(till(self.HOUSE, all_heads(self.HOUSE), [], (0, [0])))
        self.assertIsNone(till(self.HOUSE, [], [], (0, [0])))
        self.assertIsNone(till(self.HOUSE, [], [(1, 3)], (0, [0])))
        self.assertIsNone(till((1, 1, []), [(0, 0)], [], (0, [0])))

    def test_heads_that_come_twice(self):
        wanted, goal = [(0, 0), (0, 4), (0, 0)], [(1, 3), (1, 5), (1, 3)]
        self.assertEqual(till(self.HOUSE, wanted, goal, (0, [0])), 2)
        self.assertEqual(till(self.HOUSE, wanted * 2, goal * 2, (0, [0])), 2)
        self.assertEqual(till(self.HOUSE, wanted[::-1], goal[::-1], (0, [0])), 2)

    def test_a_number_that_is_very_great(self):
        house = doubling(299, rooms=2)
        house = (2, 300, house[2])
        everything = all_heads(house)
        self.assertEqual(till(house, everything, [(0, 299)], (0, [298, 299])), 2 ** 299 - 1)
        self.assertIsNone(till(house, everything[1:], [(0, 299)], (0, [298, 299])))

    def test_against_runs(self):
        chance = random.Random(131)
        seen = {}
        for turn in range(1500):
            house = some_house(chance, 1 + turn % 3, 2 + turn % 3, 3 + turn % 8)
            heads = all_heads(house)
            wanted = chance.choices(heads, k=chance.randrange(3 * len(heads)))
            goal = chance.choices(heads, k=chance.randrange(3))
            begin = some_standing(chance, house, 4)
            given = till(house, wanted, goal, begin)
            expected = till_by_runs(house, wanted, goal, begin, 6)
            self.assertEqual(given if given is not None and given <= 6 else None, expected)
            seen[expected] = seen.get(expected, 0) + 1
        self.assertLessEqual({None, 0, 1, 2, 3, 4}, set(seen))
        self.assertGreater(seen[None], 100)


class HeadSteps(unittest.TestCase):
    def test_no_rules(self):
        self.assertEqual(head_steps((2, 2, [])), {})

    def test_an_empty_put(self):
        self.assertEqual(head_steps((2, 2, [(0, 1, 1, ()), (0, 1, 0, ()), (1, 0, 0, ())])), {(0, 1): [], (1, 0): []})

    def test_a_put_of_one_sign(self):
        house = (2, 3, [(0, 0, 1, (2,)), (0, 0, 0, (1,)), (0, 0, 1, ()), (1, 2, 1, (2,))])
        self.assertEqual(head_steps(house), {(0, 0): [(0, 1), (1, 2)], (1, 2): [(1, 2)]})

    def test_a_put_of_two_signs_without_pairs(self):
        house = (2, 3, [(0, 0, 1, (1, 2))])
        self.assertEqual(head_steps(house), {(0, 0): [(1, 1)]})
        # The first sign goes round without end, and is never gone.
        round_it = (2, 3, house[2] + [(1, 1, 0, (1,)), (0, 1, 1, (1,))])
        self.assertEqual(head_steps(round_it), {(0, 0): [(1, 1)], (1, 1): [(0, 1)], (0, 1): [(1, 1)]})

    def test_a_put_of_two_signs_with_pairs(self):
        house = (3, 3, [(0, 0, 1, (1, 2)), (1, 1, 0, ()), (1, 1, 2, (0,)), (2, 0, 2, ())])
        self.assertEqual(head_steps(house), {
            (0, 0): [(0, 2), (1, 1), (2, 2)], (1, 1): [(2, 0)], (2, 0): []})

    def test_the_pairs_of_the_first_sign_in_its_room_alone(self):
        # What (0, 1) or (1, 2) lead to when they are gone does not count for a call of (1, 1).
        house = (3, 3, [(0, 0, 1, (1, 2)), (0, 1, 0, ()), (1, 2, 2, ()), (1, 1, 1, ())])
        self.assertEqual(head_steps(house)[(0, 0)], [(1, 1), (1, 2)])

    def test_a_call_that_is_gone_by_calls_alone(self):
        house = (2, 4, [(0, 0, 0, (1, 3)), (0, 1, 0, (2, 2)), (0, 2, 1, ()), (1, 2, 1, ())])
        self.assertEqual(head_steps(house), {
            (0, 0): [(0, 1), (1, 3)], (0, 1): [(0, 2), (1, 2)], (0, 2): [], (1, 2): []})

    def test_each_head_once_and_sorted(self):
        house = (2, 12, [(0, 0, 1, (10,)), (0, 0, 1, (9,)), (0, 0, 0, (11,)), (0, 0, 1, (10,)), (0, 0, 1, (10, 10)),
                         (1, 10, 1, ())])
        self.assertEqual(head_steps(house), {(0, 0): [(0, 11), (1, 9), (1, 10)], (1, 10): []})

    def test_heads_without_a_rule_are_not_there(self):
        given = head_steps((2, 3, [(0, 0, 1, (1, 2)), (1, 1, 0, ())]))
        self.assertEqual(sorted(given), [(0, 0), (1, 1)])

    def test_every_list_is_one_by_itself(self):
        given = head_steps((1, 3, [(0, 0, 0, (2,)), (0, 1, 0, (2,))]))
        given[(0, 0)].append((0, 0))
        self.assertEqual(given[(0, 1)], [(0, 2)])

    def test_by_chance(self):
        chance = random.Random(141)
        for turn in range(500):
            house = some_house(chance, 1 + turn % 4, 1 + turn % 5, turn % 15)
            given = head_steps(house)
            self.assertIs(type(given), dict)
            self.assertEqual(given, steps_by_words(house))


class HeadsOf(unittest.TestCase):
    def test_an_empty_stack(self):
        self.assertEqual(heads_of((2, 1, [(0, 0, 0, (0,))]), (0, [])), [])

    def test_no_rules(self):
        self.assertEqual(heads_of((2, 3, []), (1, [2, 0])), [(1, 2)])

    def test_a_head_that_is_stuck_is_one_too(self):
        self.assertEqual(heads_of((2, 3, [(0, 0, 1, (2,))]), (0, [0])), [(0, 0), (1, 2)])

    def test_those_beneath_the_top_one_that_are_come_to(self):
        house = (3, 4, [(0, 0, 1, ()), (0, 0, 2, ()), (1, 1, 0, ()), (2, 1, 2, (3,))])
        self.assertEqual(heads_of(house, (0, [0, 1, 2])), [(0, 0), (0, 2), (1, 1), (2, 1), (2, 3)])

    def test_those_beneath_the_top_one_that_are_not(self):
        house = (2, 4, [(0, 0, 1, (1,)), (1, 1, 0, (0,)), (0, 2, 0, ()), (1, 2, 1, ())])
        self.assertEqual(heads_of(house, (0, [0, 2, 3])), [(0, 0), (1, 1)])
        self.assertEqual(heads_of(house, (0, [2, 0, 2])), [(0, 0), (0, 2), (1, 1)])
        self.assertEqual(heads_of(house, (0, [2, 2, 3, 0])), [(0, 2), (0, 3)])

    def test_beneath_a_call(self):
        house = (2, 4, [(0, 0, 0, (1, 2)), (0, 1, 1, ()), (1, 2, 0, ())])
        self.assertEqual(heads_of(house, (0, [0, 3])), [(0, 0), (0, 1), (0, 3), (1, 2)])
        self.assertEqual(heads_of(house, (0, [1, 3])), [(0, 1), (1, 3)])

    def test_deep_beneath(self):
        house = (2, 3, [(0, 0, 1, ()), (1, 0, 0, ())])
        self.assertEqual(heads_of(house, (0, [0] * 98 + [1, 2])), [(0, 0), (0, 1), (1, 0)])
        self.assertEqual(heads_of(house, (0, [0] * 99 + [1])), [(0, 0), (1, 0), (1, 1)])

    def test_runs_of_very_many_steps(self):
        house = (1, 300, doubling(299)[2])
        self.assertEqual(heads_of(house, (0, [298, 299])), [(0, sign) for sign in range(300)])

    def test_by_chance(self):
        chance = random.Random(142)
        sizes = {}
        for turn in range(400):
            house = some_house(chance, 1 + turn % 3, 2 + turn % 3, 2 + turn % 9)
            begin = some_standing(chance, house, 4)
            given = heads_of(house, begin)
            self.assertIs(type(given), list)
            self.assertEqual(given, heads_by_forward(house, begin))
            for here in levels(house, begin, 5):
                for standing in here:
                    if standing[1]:
                        self.assertIn(head(standing), given)
            sizes[len(given)] = True
        self.assertGreater(len(sizes), 6)

    def test_all_heads_of_finite_runs(self):
        chance = random.Random(143)
        walked = 0
        for turn in range(1500):
            house = some_house(chance, 1 + turn % 3, 3, 3 + turn % 6)
            begin = some_standing(chance, house, 4)
            rows = list(levels(house, begin, 14))
            if not rows[-1]:
                found = {head(standing) for row in rows for standing in row if standing[1]}
                self.assertEqual(heads_of(house, begin), sorted(found))
                walked += len(found) > 3
        self.assertGreater(walked, 30)


class Ring(unittest.TestCase):
    def check(self, house, standing):
        given = ring(house, standing)
        leading, heads = steps_by_words(house), heads_by_forward(house, standing)
        self.assertEqual(given is not None, has_circle(leading, heads))
        if given is not None:
            check_ring(self, leading, heads, given)
        return given

    def test_none(self):
        house = (2, 4, [(0, 0, 0, (1, 2)), (0, 1, 1, ()), (1, 2, 0, (3,)), (0, 0, 0, (3,))])
        self.assertIsNone(self.check(house, (0, [0, 0, 3])))
        self.assertIsNone(self.check(house, (0, [])))
        self.assertIsNone(self.check((2, 2, []), (0, [1])))

    def test_a_ring_of_one_head(self):
        self.assertEqual(self.check((1, 2, [(0, 0, 0, (0,))]), (0, [0])), [(0, 0)])
        self.assertEqual(self.check((1, 2, [(0, 1, 0, (0,)), (0, 0, 0, ()), (0, 0, 0, (0, 1))]), (0, [0])), [(0, 0)])
        # The sign beneath comes on top again, when the one above it is gone.
        self.assertEqual(self.check((1, 2, [(0, 0, 0, (1, 0)), (0, 1, 0, ())]), (0, [0])), [(0, 0)])

    def test_a_call_that_does_not_return_makes_no_ring_over_the_sign_beneath(self):
        self.assertIsNone(self.check((2, 2, [(0, 0, 0, (1, 0))]), (0, [0])))
        self.assertIsNone(self.check((2, 2, [(0, 0, 0, (1, 0)), (0, 1, 1, ())]), (0, [0])))

    def test_a_ring_of_several_heads(self):
        house = (2, 4, [(0, 0, 1, (1,)), (1, 1, 0, (2,)), (0, 2, 0, (0,)), (0, 2, 0, (3,)), (1, 1, 1, ())])
        given = self.check(house, (0, [2]))
        self.assertEqual(sorted(given), [(0, 0), (0, 2), (1, 1)])

    def test_a_way_into_the_ring_is_no_part_of_it(self):
        house = (1, 6, [(0, 5, 0, (4,)), (0, 4, 0, (3,)), (0, 3, 0, (2,)), (0, 2, 0, (1,)), (0, 1, 0, (2,)),
                        (0, 2, 0, (0,)), (0, 0, 0, ())])
        self.assertEqual(sorted(self.check(house, (0, [5, 5]))), [(0, 1), (0, 2)])

    def test_a_ring_beneath_the_top(self):
        house = (2, 3, [(0, 0, 1, ()), (1, 1, 1, (1,)), (0, 1, 0, ())])
        self.assertEqual(self.check(house, (0, [0, 1])), [(1, 1)])
        self.assertIsNone(self.check(house, (0, [1, 0])))
        self.assertEqual(self.check(house, (0, [1, 1, 1, 0, 1])), [(1, 1)])

    def test_a_ring_that_is_not_come_to(self):
        house = (2, 3, [(0, 0, 0, (1,)), (0, 2, 0, (2,)), (1, 1, 1, (1,)), (0, 1, 0, ())])
        self.assertIsNone(self.check(house, (0, [0])))
        # Sign 0 is gone in room 0, so that only sign 2 makes a ring there.
        self.assertIsNone(self.check(house, (0, [0, 1, 1])))
        self.assertEqual(self.check(house, (0, [0, 1, 2])), [(0, 2)])
        self.assertIsNone(self.check(house, (1, [0, 1, 2])))

    def test_several_rings(self):
        house = (1, 4, [(0, sign, 0, (other,)) for sign in range(4) for other in range(4)])
        self.check(house, (0, [3]))

    def test_long_rings(self):
        house = (1, 300, [(0, sign, 0, ((sign + 1) % 300,)) for sign in range(300)])
        self.assertEqual(sorted(self.check(house, (0, [150]))), [(0, sign) for sign in range(300)])

    def test_by_chance(self):
        chance = random.Random(144)
        sizes = {}
        for turn in range(1500):
            house = some_house(chance, 1 + turn % 3, 2 + turn % 4, 2 + turn % 10)
            given = self.check(house, some_standing(chance, house, 4))
            sizes[0 if given is None else len(given)] = True
        self.assertLessEqual({0, 1, 2, 3, 4}, set(sizes))

    def test_just_where_some_run_goes_on_without_end(self):
        chance = random.Random(145)
        kinds = [0, 0]
        for turn in range(800):
            house = some_house(chance, 1 + turn % 3, 3, 2 + turn % 6)
            begin = some_standing(chance, house, 3)
            lasts = ring(house, begin) is not None
            # Where there is no ring, all runs of these few heads are soon over.
            self.assertEqual(runs_on(house, begin, 10 if lasts else 60), lasts)
            kinds[lasts] += begin[1] != [] and runs_on(house, begin, 2)
        self.assertGreater(min(kinds), 40)


class Sizes(unittest.TestCase):
    def check_quickly(self, house, chance):
        everything = all_heads(house)
        begin = (0, [chance.randrange(house[1]) for _ in range(100)])
        with in_seconds(self):
            self.assertEqual(head_steps(house), steps_by_words(house))
            heads = heads_of(house, begin)
            given = ring(house, begin)
            till(house, chance.choices(everything, k=400), chance.choices(everything, k=20), begin)
        self.assertEqual(heads, heads_in(house, forward(house, listing(house, [begin]))))
        self.assertEqual(given is not None, has_circle(steps_by_words(house), heads))

    def test_houses_by_chance(self):
        chance = random.Random(146)
        for rooms, signs in ((8, 10), (8, 50), (8, 100), (2, 200), (1, 300), (8, 300)):
            with self.subTest(rooms=rooms, signs=signs):
                self.check_quickly(some_house(chance, rooms, signs, 800), chance)

    def test_a_ring_of_very_many_heads(self):
        # All 800 heads in one row, and from the last back to the first.
        heads = [(room, sign) for sign in range(100) for room in range(8)]
        rules = [(*one, other[0], (other[1],)) for one, other in zip(heads, heads[1:] + heads[:1])]
        with in_seconds(self):
            self.assertEqual(sorted(ring((8, 300, rules), (0, [50] * 100))), sorted(heads))
            self.assertIsNone(ring((8, 300, rules[:-1]), (0, [50] * 100)))
            self.assertEqual(heads_of((8, 300, rules[:-1]), (0, [0] * 100)), sorted(heads))

    def test_very_many_head_steps(self):
        # Each call may come back in any room.
        rules = [(room, 0, to, ()) for room in range(8) for to in range(8)]
        rules.extend((room, sign, room, (sign - 1, 0)) for sign in range(1, 92) for room in range(8))
        house = (8, 300, rules)
        with in_seconds(self):
            given = head_steps(house)
        self.assertEqual(given[(3, 91)], sorted([(room, 0) for room in range(8)] + [(3, 90)]))
        with in_seconds(self):
            self.assertIsNone(ring(house, (0, [91] * 100)))
            self.assertEqual(till(house, all_heads(house), [(5, 299)], (0, [91] * 99 + [299])), 99 * (2 * 91 + 1))


if __name__ == "__main__":
    unittest.main()
