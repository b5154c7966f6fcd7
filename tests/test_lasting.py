"""Tiers, the longest run, runs that fail a goal: points [15] and [16], callwalk/lasting.py."""

import random
import unittest

from callwalk.errors import Endless
from callwalk.heads import head_steps, heads_of, ring
from callwalk.houses import cut, steps, stuck_heads
from callwalk.lasting import failing, longest, tiers
from helper import (all_heads, check_ring, doubling, has_circle, head, heads_by_forward, in_seconds, some_house,
                    some_standing, steps_by_words)


def onward(house, here, barred=()):
    # One step further than all these standings, but for those with a barred head.
    ahead = {}
    for standing in here:
        if head(standing) not in barred:
            ahead.update({(room, tuple(stack)): True for number, (room, stack) in steps(house, standing)})
    return [(room, list(stack)) for room, stack in ahead]


def tier_by_words(leading, one):
    return max([1 + tier_by_words(leading, other) for other in leading.get(one, [])], default=0)


def longest_by_runs(house, begin):
    # Straight by the words of [15], over all runs; there must be a last step.
    count, here = 0, onward(house, [begin])
    while here:
        count, here = count + 1, onward(house, here)
    return count


class Tiers(unittest.TestCase):
    def test_an_empty_stack(self):
        self.assertEqual(tiers((2, 1, [(0, 0, 0, (0,))]), (0, [])), {})
        self.assertEqual(tiers((2, 1, []), (1, [])), {})

    def test_heads_that_lead_nowhere(self):
        house = (2, 3, [(0, 0, 1, ()), (0, 0, 0, ())])
        self.assertEqual(tiers(house, (0, [0])), {(0, 0): 0})
        self.assertEqual(tiers(house, (1, [2])), {(1, 2): 0})
        self.assertEqual(tiers(house, (0, [0, 1])), {(0, 0): 0, (0, 1): 0, (1, 1): 0})

    def test_one_head_step_behind_another(self):
        house = (2, 4, [(0, 0, 1, (1,)), (1, 1, 0, (2,)), (0, 2, 0, (3,))])
        self.assertEqual(tiers(house, (0, [0])), {(0, 0): 3, (1, 1): 2, (0, 2): 1, (0, 3): 0})
        self.assertEqual(tiers(house, (1, [1, 0])), {(1, 1): 2, (0, 2): 1, (0, 3): 0})

    def test_several_ways_of_unlike_lengths(self):
        # From 0 straight to 4, over 3, and over 1, 2 and 3: the longest counts, wherever its rule stands.
        rules = [(0, 0, 0, (4,)), (0, 0, 0, (1,)), (0, 0, 0, (3,)), (0, 1, 0, (2,)), (0, 2, 0, (3,)), (0, 3, 0, (4,)),
                 (0, 1, 0, (4,))]
        for house in ((1, 5, rules), (1, 5, rules[::-1]), (1, 5, rules[3:] + rules[:3])):
            self.assertEqual(tiers(house, (0, [0])), {(0, 0): 4, (0, 1): 3, (0, 2): 2, (0, 3): 1, (0, 4): 0})

    def test_head_steps_of_a_call(self):
        # The sign beneath is come to, when the one above it is gone, by one head step.
        house = (2, 4, [(0, 0, 0, (1, 2)), (0, 1, 0, (3,)), (0, 3, 1, ()), (1, 2, 0, ())])
        self.assertEqual(tiers(house, (0, [0])), {(0, 0): 2, (0, 1): 1, (0, 3): 0, (1, 2): 0})

    def test_a_call_that_does_not_return(self):
        house = (2, 3, [(0, 0, 0, (1, 2)), (0, 2, 0, (1,)), (1, 2, 0, (0,))])
        self.assertEqual(tiers(house, (0, [0])), {(0, 0): 1, (0, 1): 0})

    def test_heads_beneath_the_top_one(self):
        # What lies beneath is a head of the standing, but no head step leads to it.
        house = (2, 3, [(0, 0, 1, (1,)), (1, 1, 1, ()), (1, 2, 1, (1,))])
        self.assertEqual(tiers(house, (0, [0, 2])), {(0, 0): 1, (1, 1): 0, (1, 2): 1})

    def test_a_long_stack(self):
        house = (2, 3, [(0, 0, 1, ()), (1, 0, 0, ()), (0, 1, 0, (2,)), (1, 1, 1, (0,))])
        self.assertEqual(tiers(house, (0, [0] * 99 + [1])), {(0, 0): 0, (1, 0): 0, (1, 1): 1})
        self.assertEqual(tiers(house, (0, [0] * 98 + [1, 1])), {(0, 0): 0, (1, 0): 0, (0, 1): 1, (0, 2): 0})

    def test_very_many_tiers(self):
        heads = [(room, sign) for sign in range(100) for room in range(8)]
        rules = [(*one, other[0], (other[1],)) for one, other in zip(heads, heads[1:])]
        for house in ((8, 300, rules), (8, 300, rules[::-1])):
            given = tiers(house, (0, [0] * 100))
            self.assertEqual(given, {one: 799 - number for number, one in enumerate(heads)})

    def test_endless(self):
        for house, begin in (
                ((1, 1, [(0, 0, 0, (0,))]), (0, [0])),
                ((1, 2, [(0, 0, 0, ()), (0, 0, 0, (0, 1))]), (0, [0])),
                ((2, 2, [(0, 0, 1, (1,)), (1, 1, 0, (0,)), (1, 1, 0, ())]), (1, [1])),
                ((2, 3, [(0, 0, 1, ()), (1, 1, 1, (1,))]), (0, [0, 1])),
                # Not where it calls, but where it goes on behind its calls.
                ((1, 2, [(0, 0, 0, (1, 0)), (0, 1, 0, ())]), (0, [0]))):
            for asked in (tiers, longest):
                with self.subTest(asked=asked.__name__, house=house), self.assertRaises(Endless):
                    asked(house, begin)

    def test_a_ring_that_is_not_come_to(self):
        house = (2, 3, [(0, 0, 0, (1,)), (0, 2, 0, (2,)), (1, 1, 1, (1,)), (0, 1, 0, ())])
        self.assertEqual(tiers(house, (0, [0, 1, 1])), {(0, 0): 1, (0, 1): 0})
        self.assertEqual(longest(house, (0, [0, 1, 1])), 4)
        self.assertEqual(tiers(house, (1, [0, 2, 1])), {(1, 0): 0})
        self.assertEqual(longest(house, (1, [0, 2, 1])), 0)
        for asked in (tiers, longest):
            with self.assertRaises(Endless):
                asked(house, (0, [0, 2]))

    def test_by_chance(self):
        chance = random.Random(151)
        seen, refused = {}, 0
        for turn in range(1500):
            house = some_house(chance, 1 + turn % 3, 2 + turn % 4, 2 + turn % 8)
            begin = some_standing(chance, house, 4)
            leading, heads = steps_by_words(house), heads_by_forward(house, begin)
            if has_circle(leading, heads):
                refused += 1
                for asked in (tiers, longest):
                    self.assertRaises(Endless, asked, house, begin)
                continue
            given = tiers(house, begin)
            self.assertIs(type(given), dict)
            self.assertEqual(given, {one: tier_by_words(leading, one) for one in heads})
            seen[max(given.values(), default=None)] = True
        self.assertLessEqual({None, 0, 1, 2, 3}, set(seen))
        self.assertGreater(refused, 200)


class Longest(unittest.TestCase):
    def test_no_step(self):
        house = (2, 2, [(0, 0, 1, ())])
        for begin in ((0, []), (1, []), (1, [0]), (0, [1, 0])):
            self.assertEqual(longest(house, begin), 0)
        self.assertIs(type(longest(house, (0, []))), int)

    def test_till_it_ends_or_is_stuck(self):
        house = (2, 3, [(0, 0, 1, ()), (1, 0, 0, (1,)), (0, 1, 0, ())])
        self.assertEqual(longest(house, (0, [0])), 1)
        self.assertEqual(longest(house, (1, [0])), 2)
        self.assertEqual(longest(house, (0, [0, 0])), 3)
        self.assertEqual(longest(house, (0, [0, 0, 2])), 3)
        self.assertEqual(longest(house, (0, [0, 1, 0])), 1)

    def test_several_ways_of_unlike_lengths(self):
        rules = [(0, 0, 0, (4,)), (0, 0, 0, (1,)), (0, 0, 0, (3,)), (0, 1, 0, (2,)), (0, 2, 0, (3,)), (0, 3, 0, (4,))]
        for house in ((1, 5, rules), (1, 5, rules[::-1])):
            self.assertEqual(longest(house, (0, [0])), 4)
            self.assertEqual(longest(house, (0, [3, 0])), 1)

    def test_a_long_way_that_is_stuck_and_a_short_one_that_is_gone(self):
        # With little beneath, the way over 1, 2 and 3, which is stuck, is the longer one; with much, the other one.
        house = (1, 5, [(0, 0, 0, (1,)), (0, 1, 0, (2,)), (0, 2, 0, (3,)), (0, 0, 0, ()), (0, 4, 0, ())])
        self.assertEqual(longest(house, (0, [0])), 3)
        self.assertEqual(longest(house, (0, [0, 4])), 3)
        self.assertEqual(longest(house, (0, [0, 4, 4, 4])), 4)
        self.assertEqual(longest(house, (0, [0, 4, 0, 4, 3])), 5)

    def test_a_short_way_into_a_room_where_more_comes(self):
        # Three steps lead to room 1, where nothing follows, one to room 0, where the next sign takes five.
        house = (2, 9, [(0, 0, 1, (1,)), (1, 1, 1, (2,)), (1, 2, 1, ()), (0, 0, 0, ())]
                 + [(0, sign, 0, (sign + 1,)) for sign in range(3, 7)] + [(0, 7, 0, ())])
        self.assertEqual(longest(house, (0, [0])), 3)
        self.assertEqual(longest(house, (0, [0, 3])), 6)
        self.assertEqual(longest(house, (0, [0, 7])), 3)
        self.assertEqual(longest(house, (0, [0, 8])), 3)
        # The same beneath a call.
        calling = (2, 9, house[2] + [(1, 8, 0, (0, 3)), (0, 8, 0, (0, 7))])
        self.assertEqual(longest(calling, (1, [8])), 7)
        self.assertEqual(longest(calling, (0, [8])), 4)

    def test_calls_within_calls(self):
        # Sign n takes 2 ** (n + 1) - 1 steps.
        house = doubling(6)
        self.assertEqual([longest(house, (0, [sign])) for sign in range(6)], [1, 3, 7, 15, 31, 63])
        self.assertEqual(longest(house, (0, [5, 0, 3])), 63 + 1 + 15)

    def test_the_longest_and_not_the_shortest_of_a_call(self):
        house = (2, 4, [(0, 0, 0, (1, 2)), (0, 1, 0, ()), (0, 1, 1, (1,)), (1, 1, 1, (3,)), (1, 3, 0, ()),
                        (0, 2, 0, ())])
        self.assertEqual(longest(house, (0, [0])), 5)

    def test_numbers_of_many_figures(self):
        self.assertEqual(longest(doubling(300), (0, [299])), 2 ** 300 - 1)
        self.assertEqual(longest(doubling(300), (0, [299] * 100)), 100 * (2 ** 300 - 1))
        # Beside each pair of calls a way of one step, which is never the longest.
        rules = doubling(300)[2] + [(0, sign, 0, ()) for sign in range(300)]
        self.assertEqual(longest((1, 300, rules), (0, [299, 299])), 2 * (2 ** 300 - 1))

    def test_a_long_stack(self):
        house = (2, 3, [(0, 0, 1, ()), (1, 0, 0, ()), (1, 1, 1, (0,)), (0, 2, 0, ())])
        self.assertEqual(longest(house, (0, [0] * 100)), 100)
        self.assertEqual(longest(house, (0, [0] * 99 + [1])), 101)
        self.assertEqual(longest(house, (0, [0] * 50 + [1] + [0] * 49)), 50)

    def test_by_chance(self):
        chance = random.Random(152)
        seen = {}
        for turn in range(4000):
            house = some_house(chance, 1 + turn % 3, 3 + turn % 3, 3 + turn % 8)
            begin = some_standing(chance, house, 5)
            if ring(house, begin) is None:
                given = longest(house, begin)
                self.assertEqual(given, longest_by_runs(house, begin))
                seen[given] = True
        self.assertLessEqual(set(range(10)), set(seen))


class Failing(unittest.TestCase):
    # From 0 over 1 to an end in two steps, over 2 to where it is stuck in one, over 3 and 4 round and round.
    HOUSE = (2, 6, [(0, 0, 0, (1,)), (0, 1, 1, ()), (0, 0, 1, (2,)), (0, 0, 0, (3,)), (0, 3, 0, (4,)), (0, 4, 0, (3,))])

    def check_endless(self, house, goal, begin, given):
        self.assertIs(type(given), tuple)
        self.assertEqual((len(given), given[0]), (2, "endless"))
        left = cut(house, [one for one in all_heads(house) if one not in goal])
        check_ring(self, steps_by_words(left), heads_by_forward(left, begin), given[1])

    def test_ended_ahead_of_stuck_ahead_of_endless(self):
        begin = (0, [0])
        self.assertEqual(failing(self.HOUSE, [], begin), ("ended", 2))
        self.assertEqual(failing(self.HOUSE, [(0, 1)], begin), ("stuck", 1))
        given = failing(self.HOUSE, [(0, 1), (1, 2)], begin)
        self.check_endless(self.HOUSE, [(0, 1), (1, 2)], begin, given)
        self.assertEqual(sorted(given[1]), [(0, 3), (0, 4)])
        for last in (3, 4):
            self.assertIsNone(failing(self.HOUSE, [(0, 1), (1, 2), (0, last)], begin))

    def test_none(self):
        house = (1, 3, [(0, 0, 0, (1,)), (0, 0, 0, (2,)), (0, 1, 0, (2,)), (0, 2, 0, ())])
        self.assertIsNone(failing(house, [(0, 2)], (0, [0])))
        self.assertIsNone(failing(house, [(0, 1), (0, 2)], (0, [0])))
        self.assertEqual(failing(house, [(0, 1)], (0, [0])), ("ended", 2))

    def test_a_goal_at_the_standing_itself(self):
        for begin in ((0, [0]), (0, [0, 5, 1])):
            self.assertIsNone(failing(self.HOUSE, [(0, 0)], begin))
        # So it is with one that is stuck.
        self.assertEqual(failing(self.HOUSE, [(0, 0)], (0, [5])), ("stuck", 0))
        self.assertIsNone(failing(self.HOUSE, [(0, 5)], (0, [5, 0])))

    def test_a_standing_that_has_ended(self):
        for goal in ([], [(0, 0)], all_heads(self.HOUSE)):
            self.assertEqual(failing(self.HOUSE, goal, (0, [])), ("ended", 0))
            self.assertEqual(failing(self.HOUSE, goal, (1, [])), ("ended", 0))

    def test_an_empty_goal(self):
        self.assertEqual(failing(self.HOUSE, [], (0, [0, 5])), ("stuck", 1))
        self.assertEqual(failing(self.HOUSE, [], (0, [1, 5])), ("stuck", 1))
        self.assertEqual(failing(self.HOUSE, [], (0, [1])), ("ended", 1))
        self.check_endless(self.HOUSE, [], (0, [3]), failing(self.HOUSE, [], (0, [3])))
        self.assertEqual(failing((1, 1, []), [], (0, [0])), ("stuck", 0))

    def test_a_goal_that_comes_too_late(self):
        # Behind the end, or behind what is stuck, nothing comes.
        self.assertEqual(failing(self.HOUSE, [(1, 0), (0, 5)], (0, [1])), ("ended", 1))
        self.assertEqual(failing(self.HOUSE, [(0, 1), (1, 5)], (0, [0, 5])), ("stuck", 1))

    def test_stuck_in_the_house_as_it_is(self):
        # In the cut house the goal has no rule, and a standing there looks stuck, but it is the goal.
        house = (1, 3, [(0, 0, 0, (1,)), (0, 1, 0, (1,))])
        self.assertIsNone(failing(house, [(0, 1)], (0, [0])))
        # Here the goal is stuck in the house itself: that run fails nothing either.
        self.assertIsNone(failing((1, 3, house[2][:1]), [(0, 1)], (0, [0])))
        self.assertEqual(failing((1, 3, house[2][:1]), [(0, 2)], (0, [0])), ("stuck", 1))

    def test_the_least_number_of_steps(self):
        # Over 1 and 2 in four steps to the end, over 3 in two; over 4 in two to where it is stuck, over 5 in one.
        house = (1, 8, [(0, 0, 0, (1,)), (0, 1, 0, (2,)), (0, 2, 0, (3,)), (0, 3, 0, ()), (0, 0, 0, (3,)),
                        (0, 0, 0, (4,)), (0, 4, 0, (6,)), (0, 0, 0, (5,))])
        self.assertEqual(failing(house, [], (0, [0])), ("ended", 2))
        self.assertEqual(failing(house, [(0, 3)], (0, [0])), ("stuck", 1))
        self.assertEqual(failing(house, [(0, 3), (0, 5)], (0, [0])), ("stuck", 2))
        self.assertEqual(failing(house, [(0, 3), (0, 4), (0, 5)], (0, [0])), None)
        # Not the least of all runs that end, but of those that fail.
        around = (1, 8, house[2] + [(0, 2, 0, ())])
        self.assertEqual(failing(around, [(0, 3)], (0, [0])), ("ended", 3))

    def test_an_end_is_told_ahead_of_what_is_stuck_sooner(self):
        house = (2, 3, [(0, 0, 0, (1, 1)), (0, 1, 0, ()), (0, 0, 1, (2,))])
        self.assertEqual(failing(house, [], (0, [0])), ("ended", 3))
        self.assertEqual(failing(house, [(0, 1)], (0, [0])), ("stuck", 1))
        self.assertEqual(failing(house, [(1, 2)], (0, [0])), ("ended", 3))

    def test_heads_that_come_twice_in_the_goal(self):
        goal = [(0, 1), (1, 2), (0, 1)]
        self.check_endless(self.HOUSE, goal, (0, [0]), failing(self.HOUSE, goal * 2, (0, [0])))
        self.assertIsNone(failing(self.HOUSE, [(0, 0), (0, 0)], (0, [0])))
        self.assertEqual(failing(self.HOUSE, [(0, 1)] * 3, (0, [0])), ("stuck", 1))

    def test_a_ring_of_the_cut_house(self):
        # Of the two rings one goes over the goal; the other one need not be the first.
        house = (1, 4, [(0, 0, 0, (1,)), (0, 1, 0, (0,)), (0, 0, 0, (2,)), (0, 2, 0, (3,)), (0, 3, 0, (2,))])
        for goal, expected in (([(0, 1)], [(0, 2), (0, 3)]), ([(0, 3)], [(0, 0), (0, 1)]),
                               ([(0, 2)], [(0, 0), (0, 1)])):
            given = failing(house, goal, (0, [0]))
            self.check_endless(house, goal, (0, [0]), given)
            self.assertEqual(sorted(given[1]), expected)

    def test_a_ring_that_is_come_to_over_the_goal_alone(self):
        house = (1, 3, [(0, 0, 0, (1,)), (0, 1, 0, (2,)), (0, 2, 0, (2,))])
        self.check_endless(house, [(0, 0)], (0, [1]), failing(house, [(0, 0)], (0, [1])))
        self.assertIsNone(failing(house, [(0, 1)], (0, [0])))
        # A call returns over the goal alone, so that what lies beneath it is not come to.
        calling = (1, 3, [(0, 0, 0, (1, 2)), (0, 1, 0, ()), (0, 2, 0, (2,))])
        self.assertIsNone(failing(calling, [(0, 1)], (0, [0])))
        self.check_endless(calling, [], (0, [0]), failing(calling, [], (0, [0])))

    def test_numbers_of_many_figures(self):
        house = (2, 300, doubling(299)[2])
        self.assertEqual(failing(house, [(0, 299)], (0, [298])), ("ended", 2 ** 299 - 1))
        self.assertEqual(failing(house, [(1, 299)], (0, [298, 298, 299])), ("stuck", 2 ** 300 - 2))
        self.assertIsNone(failing(house, [(0, 0)], (0, [298, 298, 299])))

    def test_by_chance(self):
        chance = random.Random(161)
        seen = {}
        for turn in range(3000):
            house = some_house(chance, 1 + turn % 3, 2 + turn % 4, 2 + turn % 10)
            goal = chance.choices(all_heads(house), k=chance.randrange(4))
            begin = some_standing(chance, house, 4)
            given = failing(house, goal, begin)
            kind = None if given is None else given[0]
            seen[kind] = seen.get(kind, 0) + 1
            seen[given if kind in ("ended", "stuck") else kind] = True
            self.check_by_runs(house, goal, begin, given)
        self.assertLessEqual({None, "endless"} | {(kind, count) for kind in ("ended", "stuck") for count in range(5)},
                             set(seen))

    def check_by_runs(self, house, goal, begin, given):
        # Straight by the words of [16], over all runs of seven steps at the most that come to no goal.
        stuck = stuck_heads(house)
        found = {}
        here = [begin]
        for count in range(8):
            here = [standing for standing in here if head(standing) not in goal]
            if any(not standing[1] for standing in here):
                found.setdefault("ended", count)
            if any(head(standing) in stuck for standing in here):
                found.setdefault("stuck", count)
            here = onward(house, here)
        if given is None or given[0] == "endless":
            self.assertEqual(found, {})
        elif given[1] < 8:
            self.assertEqual(found[given[0]], given[1])
        if given is None or given[0] != "ended":
            self.assertNotIn("ended", found)
        if given is not None and given[0] == "endless":
            self.check_endless(house, goal, begin, given)
            self.assertTrue(here)
        if given is None:
            left = cut(house, [one for one in all_heads(house) if one not in goal])
            self.assertFalse(has_circle(steps_by_words(left), heads_by_forward(left, begin)))


class Sizes(unittest.TestCase):
    def check_quickly(self, house, chance):
        everything = all_heads(house)
        begin = (0, [chance.randrange(house[1]) for _ in range(100)])
        with in_seconds(self):
            for asked in (tiers, longest):
                try:
                    asked(house, begin)
                except Endless:
                    pass
            for count in (0, 20, 400):
                failing(house, chance.choices(everything, k=count), begin)

    def test_houses_by_chance(self):
        chance = random.Random(153)
        for rooms, signs in ((8, 10), (8, 50), (8, 100), (2, 200), (1, 300), (8, 300)):
            with self.subTest(rooms=rooms, signs=signs):
                self.check_quickly(some_house(chance, rooms, signs, 800), chance)

    def test_houses_without_rings(self):
        # Each rule puts signs below its own, so that all runs come to an end, many of them behind very many steps.
        chance = random.Random(154)
        for rooms, signs in ((8, 40), (8, 100), (4, 200), (1, 300)):
            rules = [(room, 0, chance.randrange(rooms), ()) for room in range(rooms)]
            while len(rules) < 800:
                sign = chance.randrange(1, signs)
                put = tuple(chance.randrange(max(0, sign - 9), sign) for _ in range(chance.choice((1, 2, 2))))
                rules.append((chance.randrange(rooms), sign, chance.randrange(rooms), put))
            house, begin = (rooms, signs, rules), (0, [signs - 1, 1] * 50)
            with self.subTest(rooms=rooms, signs=signs), in_seconds(self):
                given = tiers(house, begin)
                self.assertEqual(sorted(given), heads_of(house, begin))
                leading = head_steps(house)
                for one, tier in given.items():
                    self.assertEqual(tier, max([1 + given[other] for other in leading.get(one, [])], default=0))
                self.assertGreaterEqual(longest(house, begin), given[(0, signs - 1)])
                self.assertIn(failing(house, [], begin)[0], ("ended", "stuck"))

    def test_very_many_head_steps(self):
        # Each call may come back in any room.
        rules = [(room, 0, to, ()) for room in range(8) for to in range(8)]
        rules.extend((room, sign, room, (sign - 1, 0)) for sign in range(1, 92) for room in range(8))
        house = (8, 300, rules)
        with in_seconds(self):
            self.assertEqual(tiers(house, (0, [91] * 100))[(5, 91)], 91)
            self.assertEqual(longest(house, (0, [91] * 100)), 100 * (2 * 91 + 1))
            self.assertEqual(failing(house, [(5, 299)], (0, [91] * 100)), ("ended", 100 * (2 * 91 + 1)))


if __name__ == "__main__":
    unittest.main()
