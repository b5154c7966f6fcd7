"""The least number of steps, ways, and the pairs of a house: points [9] and [10], callwalk/ways.py."""

import copy
import random
import unittest

from callwalk.errors import NoWay, NotPlain, TooLong
from callwalk.machines import takes
from callwalk.making import ending, heading, listing
from callwalk.prices import prices
from callwalk.runs import ran
from callwalk.ways import least, pairs, way
from helper import doubling, has_path, in_seconds, levels, some_house, some_machine, standings

# A chain: sign n of room 0 becomes sign n - 1, and sign 0 is taken off. So sign n is gone after n + 1 steps.
CHAIN = (2, 100, [(0, 0, 0, ())] + [(0, sign, 0, (sign - 1,)) for sign in range(1, 100)])
GONE = (2, [], [0])


def lowest_sum(machine, told, state, stack):
    # Straight by the words of [9], over all arrows that have a price.
    if not stack:
        return 0 if state in machine[2] else None
    sums = []
    for (start, sign, to), value in told.items():
        if (start, sign) == (state, stack[0]):
            rest = lowest_sum(machine, told, to, stack[1:])
            if rest is not None:
                sums.append(value[0] + rest)
    return min(sums, default=None)


def fewest(house, machine, standing, most):
    for count, here in enumerate(levels(house, standing, most)):
        if any(has_path(machine, room, stack) for room, stack in here):
            return count
    return None


class Checked(unittest.TestCase):
    def check_way(self, house, machine, standing, most):
        count = least(house, machine, standing)
        if count is None:
            with self.assertRaises(NoWay):
                way(house, machine, standing, most)
        elif count > most:
            with self.assertRaises(TooLong):
                way(house, machine, standing, most)
        else:
            given = way(house, machine, standing, most)
            self.assertIs(type(given), list)
            self.assertEqual([type(number) for number in given], [int] * count)
            # A rule that does not fit would be refused here.
            self.assertIs(takes(machine, ran(house, standing, given)), True)
        return count


class Least(Checked):
    def test_no_step_where_the_machine_takes_the_standing_itself(self):
        house = (2, 2, [(0, 0, 0, (1,)), (0, 1, 0, (0,))])
        machine = listing(house, [(0, [0, 1]), (1, [1])])
        self.assertEqual(least(house, machine, (0, [0, 1])), 0)
        self.assertEqual(least(house, machine, (1, [1])), 0)
        self.assertEqual(least(house, machine, (0, [1, 1])), 1)
        self.assertIs(type(least(house, machine, (0, [0, 1]))), int)

    def test_a_standing_that_is_stuck_or_has_ended(self):
        house = (2, 2, [(0, 0, 1, ())])
        self.assertIsNone(least(house, listing(house, [(0, [0])]), (0, [1])))
        self.assertIsNone(least(house, listing(house, [(0, [0])]), (0, [])))
        self.assertEqual(least(house, listing(house, [(0, [1])]), (0, [1])), 0)

    def test_an_empty_stack(self):
        house = (2, 2, [(0, 0, 1, ()), (1, 0, 0, ())])
        for ends in ([], [0], [1], [0, 1]):
            for room in (0, 1):
                self.assertEqual(least(house, ending(house, ends), (room, [])), 0 if room in ends else None)

    def test_an_empty_stack_and_arrows_from_the_room(self):
        house = (2, 2, [(0, 0, 1, ())])
        self.assertIsNone(least(house, (3, [(0, 0, 2), (1, 0, 2), (2, 1, 2)], [2]), (0, [])))

    def test_none_where_no_run_leads_there(self):
        house = (2, 3, [(0, 0, 0, (1,)), (0, 1, 0, (0,)), (0, 2, 1, ())])
        self.assertIsNone(least(house, ending(house, [0, 1]), (0, [0])))
        self.assertIsNone(least(house, ending(house, [0]), (0, [2])))
        self.assertIsNone(least(house, ending(house, [0, 1]), (0, [2, 2])))
        self.assertIsNone(least(house, (2, [], []), (0, [2])))
        self.assertEqual(least(house, ending(house, [1]), (0, [2])), 1)

    def test_all_of_the_stack_counts(self):
        house = (2, 2, [(0, 0, 1, ()), (1, 1, 0, ())])
        machine = listing(house, [(1, [1, 0])])
        self.assertEqual(least(house, machine, (0, [0, 1, 0])), 1)
        self.assertIsNone(least(house, machine, (0, [0, 1])))
        self.assertIsNone(least(house, machine, (0, [0, 1, 0, 0])))
        self.assertIsNone(least(house, machine, (0, [0, 1, 1])))

    def test_a_sign_that_takes_several_steps_to_be_gone(self):
        self.assertEqual(least(CHAIN, GONE, (0, [0])), 1)
        self.assertEqual(least(CHAIN, GONE, (0, [7])), 8)
        self.assertEqual(least(CHAIN, GONE, (0, [7, 2])), 11)
        self.assertEqual(least(CHAIN, listing(CHAIN, [(0, [2])]), (0, [7, 2])), 8)
        self.assertEqual(least(CHAIN, listing(CHAIN, [(0, [5, 2])]), (0, [7, 2])), 2)

    def test_a_long_stack(self):
        self.assertEqual(least(CHAIN, GONE, (0, list(range(100)))), 5050)
        self.assertEqual(least(CHAIN, GONE, (0, [99] * 100)), 10000)
        self.assertIsNone(least(CHAIN, GONE, (1, [99] * 100)))
        beneath = listing(CHAIN, [(0, [99] * 98 + [98])])
        self.assertEqual(least(CHAIN, beneath, (0, [99] * 99 + [98])), 100)
        self.assertIsNone(least(CHAIN, beneath, (0, [99] * 100)))

    def test_several_arrows_of_one_state_and_sign(self):
        # From room 0 sign 0 leads to states 2, 3 and 4, and only from 3 does sign 1 go on to an end.
        house = (2, 2, [(0, 1, 0, (0,)), (1, 0, 0, (1,))])
        machine = (6, [(0, 0, 2), (0, 0, 3), (0, 0, 4), (2, 1, 2), (3, 1, 5), (4, 0, 5)], [5])
        self.assertEqual(least(house, machine, (0, [0, 1])), 0)
        self.assertEqual(least(house, machine, (0, [1, 1])), 1)
        self.assertEqual(least(house, machine, (1, [0, 1])), 2)
        self.assertEqual(least(house, machine, (1, [0, 0])), 2)
        self.assertIsNone(least(house, machine, (0, [0, 1, 1])))

    def test_the_dearer_first_arrow_with_the_lower_sum(self):
        # To room 1 sign 0 is gone after one step, to room 2 after two; then sign 1 takes five steps, or one.
        house = (3, 7, [(0, 0, 1, ()), (0, 0, 0, (2,)), (0, 2, 2, ()), (2, 1, 0, ()),
                        (1, 1, 1, (3,)), (1, 3, 1, (4,)), (1, 4, 1, (5,)), (1, 5, 1, (6,)), (1, 6, 0, ())])
        self.assertEqual(least(house, ending(house, [0]), (0, [0, 1])), 3)
        self.assertEqual(way(house, ending(house, [0]), (0, [0, 1])), [1, 2, 3])
        dear = (3, 7, house[2][:3] + house[2][4:])
        self.assertEqual(least(dear, ending(dear, [0]), (0, [0, 1])), 6)

    def test_several_ends(self):
        house = (3, 4, [(0, 0, 0, (1,)), (0, 1, 1, ()), (0, 0, 0, (2,)), (0, 2, 0, (3,)), (0, 3, 2, ())])
        self.assertEqual(least(house, ending(house, [1, 2]), (0, [0])), 2)
        self.assertEqual(least(house, ending(house, [2]), (0, [0])), 3)
        self.assertEqual(least(house, ending(house, [0, 1]), (0, [0])), 2)
        self.assertIsNone(least(house, ending(house, [0]), (0, [0])))
        turned = (3, 4, [(0, 0, 0, (1,)), (0, 1, 2, ()), (0, 0, 0, (2,)), (0, 2, 0, (3,)), (0, 3, 1, ())])
        self.assertEqual(least(turned, ending(turned, [1, 2]), (0, [0])), 2)

    def test_a_number_that_is_very_great(self):
        house = doubling(300)
        gone = ending(house, [0])
        self.assertEqual(least(house, gone, (0, [299])), 2 ** 300 - 1)
        self.assertEqual(least(house, gone, (0, [298, 0, 299])), 2 ** 299 - 1 + 1 + 2 ** 300 - 1)
        self.assertEqual(least(house, gone, (0, [299] * 100)), 100 * (2 ** 300 - 1))
        self.assertEqual(least(house, heading(house, [(0, 0)]), (0, [299])), 299)
        self.assertEqual(least(house, listing(house, [(0, [0])]), (0, [299])), 2 ** 300 - 2)

    def test_houses_and_machines_by_chance(self):
        chance = random.Random(91)
        told_none, highest = 0, 0
        for turn in range(150):
            house = some_house(chance, 1 + turn % 3, 1 + turn % 4, 3 + turn % 9)
            machine = some_machine(chance, house, house[0] + turn % 4, turn % 8, plain=True)
            told = prices(house, machine)
            for standing in standings(house, 3):
                count = self.check_way(house, machine, standing, 60)
                self.assertEqual(count, lowest_sum(machine, told, *standing))
                told_none += count is None
                highest = max(highest, count or 0)
        self.assertGreater(told_none, 1000)
        self.assertGreater(highest, 10)

    def test_against_runs(self):
        chance = random.Random(92)
        seen = {}
        for turn in range(400):
            house = some_house(chance, 1 + turn % 2, 2 + turn % 2, 3 + turn % 4)
            machine = some_machine(chance, house, house[0] + 1 + turn % 3, 2 + turn % 5, plain=True)
            stack = [chance.randrange(house[1]) for _ in range(turn % 5)]
            standing = (chance.randrange(house[0]), stack)
            count = least(house, machine, standing)
            expected = fewest(house, machine, standing, 7)
            self.assertEqual(count if count is not None and count <= 7 else None, expected)
            seen[expected] = True
        self.assertLessEqual({None, 0, 1, 2, 3, 4, 5}, set(seen))


class Way(Checked):
    def test_no_steps_at_all(self):
        house = (2, 2, [(0, 0, 0, (0,)), (0, 0, 1, ())])
        machine = listing(house, [(0, [0, 1]), (1, [])])
        for most in (0, 1, 60):
            self.assertEqual(way(house, machine, (0, [0, 1]), most), [])
            self.assertEqual(way(house, machine, (1, []), most), [])
        self.assertEqual(way(house, machine, (0, [0, 1])), [])

    def test_puts_of_no_sign_one_and_two(self):
        house = (2, 3, [(1, 1, 1, ()), (0, 0, 0, (1, 2)), (0, 1, 1, ()), (1, 2, 0, (0,)), (0, 0, 1, ())])
        self.assertEqual(way(house, ending(house, [1]), (0, [0])), [4])
        self.assertEqual(way(house, listing(house, [(0, [1, 2])]), (0, [0])), [1])
        self.assertEqual(way(house, listing(house, [(1, [2])]), (0, [0])), [1, 2])
        self.assertEqual(way(house, listing(house, [(0, [0, 2])]), (0, [0, 2])), [])
        self.assertEqual(way(house, listing(house, [(0, [0, 1])]), (0, [1, 2, 1])), [2, 3])
        self.assertEqual(way(house, ending(house, [1]), (0, [0, 2])), [4, 3, 4])
        self.assertEqual(way(house, listing(house, [(1, [1, 1])]), (0, [0, 1, 1])), [4])
        self.assertEqual(way(house, listing(house, [(1, [2, 2])]), (0, [0, 2])), [1, 2])

    def test_calls_within_calls(self):
        house = doubling(5)
        self.assertEqual(way(house, ending(house, [0]), (0, [2])), [2, 1, 0, 0, 1, 0, 0])
        self.assertEqual(way(house, ending(house, [0]), (0, [1, 2])), [1, 0, 0, 2, 1, 0, 0, 1, 0, 0])
        self.assertEqual(way(house, listing(house, [(0, [0, 1])]), (0, [2])), [2, 1, 0])
        self.assertEqual(way(house, heading(house, [(0, 0)]), (0, [2, 4])), [2, 1])

    def test_most_left_out(self):
        self.assertEqual(way(CHAIN, GONE, (0, [59])), list(range(59, -1, -1)))
        with self.assertRaises(TooLong):
            way(CHAIN, GONE, (0, [60]))
        self.assertEqual(way(CHAIN, GONE, (0, [0] * 60)), [0] * 60)
        with self.assertRaises(TooLong):
            way(CHAIN, GONE, (0, [0] * 61))
        self.assertEqual(way(CHAIN, GONE, (0, [60]), most=61), list(range(60, -1, -1)))

    def test_most_itself_and_just_above(self):
        for sign in (0, 1, 5, 59, 60, 98):
            self.assertEqual(way(CHAIN, GONE, (0, [sign]), sign + 1), list(range(sign, -1, -1)))
            self.assertEqual(way(CHAIN, GONE, (0, [sign]), sign + 2), list(range(sign, -1, -1)))
            with self.assertRaises(TooLong) as taken:
                way(CHAIN, GONE, (0, [sign]), sign)
            self.assertIs(type(taken.exception), TooLong)

    def test_most_of_0(self):
        self.assertEqual(way(CHAIN, GONE, (0, []), 0), [])
        self.assertEqual(way(CHAIN, GONE, (0, []), most=0), [])
        with self.assertRaises(TooLong):
            way(CHAIN, GONE, (0, [0]), 0)
        with self.assertRaises(NoWay):
            way(CHAIN, GONE, (1, [0]), 0)

    def test_no_way(self):
        house = (2, 3, [(0, 0, 0, (1,)), (0, 1, 0, (0,)), (0, 2, 1, ())])
        for machine, standing in ((ending(house, [0, 1]), (0, [0])), (ending(house, [0]), (0, [2])),
                                  ((2, [], []), (0, [2])), (ending(house, [0]), (1, []))):
            for most in (0, 60, 10 ** 9):
                with self.assertRaises(NoWay) as taken:
                    way(house, machine, standing, most)
                self.assertIs(type(taken.exception), NoWay)

    def test_a_number_that_is_very_great_is_too_long(self):
        house = doubling(300)
        for most in (0, 60, 400, 10 ** 9, 2 ** 300 - 2):
            with self.assertRaises(TooLong):
                way(house, ending(house, [0]), (0, [299]), most)
        self.assertEqual(way(house, heading(house, [(0, 0)]), (0, [299]), 299), list(range(299, 0, -1)))

    def test_long_ways(self):
        house = doubling(13)
        self.check_way(house, ending(house, [0]), (0, [12]), 2 ** 13 - 1)
        self.check_way(CHAIN, GONE, (0, [99] * 100), 10000)
        # Calls that stand above one another as deep as the way is long.
        deep = (1, 300, [(0, sign, 0, (sign + 1, 299)) for sign in range(298)] + [(0, 298, 0, ()), (0, 299, 0, ())])
        self.assertEqual(self.check_way(deep, ending(deep, [0]), (0, [0]), 600), 298 + 1 + 298)

    def test_several_arrows_and_ways(self):
        chance = random.Random(93)
        lengths = {}
        for turn in range(120):
            house = some_house(chance, 1 + turn % 4, 6, 30)
            machine = some_machine(chance, house, house[0] + 3, 4 + turn % 6, plain=True)
            for length in (0, 1, 2, 5, 12, 30):
                stack = [chance.randrange(6) for _ in range(length)]
                lengths[self.check_way(house, machine, (chance.randrange(house[0]), stack), 25)] = True
        self.assertGreater(max(length or 0 for length in lengths), 25)
        self.assertGreater(len(lengths), 25)

    def test_the_same_rule_more_than_once(self):
        house = (1, 1, [(0, 0, 0, ()), (0, 0, 0, ()), (0, 0, 0, (0,))])
        given = way(house, ending(house, [0]), (0, [0, 0]))
        self.assertEqual(len(given), 2)
        self.assertLessEqual(set(given), {0, 1})


class Refused(unittest.TestCase):
    NOT_PLAIN = ((3, [(0, 0, 1)], [2]), (3, [(0, 0, 2), (2, 1, 0)], [0, 1, 2]), (2, [(1, 1, 1)], []),
                 (3, [(0, 0, 2), (0, 1, 2), (1, 1, 1), (2, 0, 2)], [2]))
    HOUSE = (2, 3, [(0, 0, 1, (1, 2)), (1, 1, 0, ()), (0, 2, 0, (2,))])

    def check(self, asked, *handed):
        before = copy.deepcopy(handed)
        with self.assertRaises(NotPlain) as taken:
            asked(*handed)
        self.assertIs(type(taken.exception), NotPlain)
        self.assertEqual(handed, before)

    def test_not_plain_ahead_of_all_else(self):
        for machine in self.NOT_PLAIN:
            # Standings that the machine takes, that lead there after some steps, and that never do.
            for standing in ((0, []), (1, []), (0, [0]), (0, [0, 1]), (0, [2, 2]), (1, [1, 0, 1]), (1, [2])):
                self.check(least, self.HOUSE, machine, standing)
                self.check(way, self.HOUSE, machine, standing)
                for most in (0, 1, 60):
                    self.check(way, self.HOUSE, machine, standing, most)

    def test_not_plain_and_too_long(self):
        house = doubling(300, rooms=2)
        self.check(way, house, (3, [(1, 0, 0)], [0]), (0, [299]))
        self.check(least, house, (3, [(1, 0, 0)], [0]), (0, [299]))

    def test_an_arrow_to_the_first_state_behind_the_rooms_is_plain(self):
        self.assertEqual(least((2, 1, []), (3, [(0, 0, 2)], [2]), (0, [0])), 0)
        self.assertEqual(way((2, 1, []), (3, [(0, 0, 2)], [2]), (0, [0])), [])


class Pairs(unittest.TestCase):
    def test_no_rules(self):
        self.assertEqual(pairs((2, 3, [])), {})

    def test_a_put_of_no_sign(self):
        self.assertEqual(pairs((3, 2, [(0, 1, 2, ()), (2, 0, 2, ())])), {(0, 1, 2): 1, (2, 0, 2): 1})

    def test_a_put_of_one_sign(self):
        house = (3, 3, [(0, 0, 1, (1,)), (1, 1, 2, (2,)), (2, 2, 0, ()), (1, 0, 1, (0,)), (2, 0, 1, (2,))])
        self.assertEqual(pairs(house), {(2, 2, 0): 1, (1, 1, 0): 2, (0, 0, 0): 3})

    def test_a_put_of_two_signs(self):
        house = (3, 4, [(0, 0, 1, (1, 2)), (1, 1, 2, ()), (2, 2, 0, (3,)), (2, 3, 1, ()), (0, 3, 1, ())])
        given = {(1, 1, 2): 1, (2, 3, 1): 1, (0, 3, 1): 1, (2, 2, 1): 2, (0, 0, 1): 4}
        self.assertEqual(pairs(house), given)
        # Where the second sign is never gone, or the first, the sign itself is not.
        self.assertNotIn((0, 0, 1), pairs((3, 4, [rule for rule in house[2] if rule[1] != 3])))
        self.assertNotIn((0, 0, 1), pairs((3, 4, [rule for rule in house[2] if rule[1] != 1])))

    def test_one_sign_to_several_rooms(self):
        house = (3, 2, [(0, 0, 0, ()), (0, 0, 2, ()), (0, 0, 0, (1,)), (0, 1, 1, ()), (0, 1, 0, ())])
        self.assertEqual(pairs(house), {(0, 0, 0): 1, (0, 0, 1): 2, (0, 0, 2): 1, (0, 1, 0): 1, (0, 1, 1): 1})

    def test_rules_that_lead_around_in_a_ring(self):
        house = (1, 3, [(0, 0, 0, (1,)), (0, 1, 0, (2,)), (0, 2, 0, (0,))])
        self.assertEqual(pairs(house), {})
        self.assertEqual(pairs((1, 3, house[2] + [(0, 2, 0, ())])), {(0, 0, 0): 3, (0, 1, 0): 2, (0, 2, 0): 1})
        calls = (1, 2, [(0, 0, 0, (0, 0)), (0, 1, 0, (1, 0)), (0, 0, 0, (0,))])
        self.assertEqual(pairs(calls), {})
        self.assertEqual(pairs((1, 2, calls[2] + [(0, 0, 0, ())])), {(0, 0, 0): 1})

    def test_the_least_of_several(self):
        house = (1, 4, [(0, 0, 0, (1, 1)), (0, 1, 0, ()), (0, 0, 0, (2,)), (0, 2, 0, (3,)), (0, 3, 0, (1,))])
        self.assertEqual(pairs(house)[(0, 0, 0)], 3)
        self.assertEqual(pairs((1, 4, house[2][1:]))[(0, 0, 0)], 4)
        self.assertEqual(pairs((1, 4, house[2] + [(0, 0, 0, (1,))]))[(0, 0, 0)], 2)

    def test_numbers_of_many_figures(self):
        self.assertEqual(pairs(doubling(300)), {(0, sign, 0): 2 ** (sign + 1) - 1 for sign in range(300)})
        given = pairs(doubling(300, rooms=2))
        self.assertEqual(given, {(0, sign, 0): 2 ** (sign + 1) - 1 for sign in range(300)})

    def test_against_runs(self):
        chance = random.Random(94)
        seen = {}
        for turn in range(250):
            house = some_house(chance, 1 + turn % 3, 3, 4 + turn % 6)
            given = pairs(house)
            self.assertIs(type(given), dict)
            brute = {}
            for room in range(house[0]):
                for sign in range(3):
                    for count, here in enumerate(levels(house, (room, [sign]), 6)):
                        for other, stack in here:
                            if not stack:
                                brute.setdefault((room, sign, other), count)
            self.assertEqual({pair: count for pair, count in given.items() if count <= 6}, brute)
            for count in given.values():
                self.assertIs(type(count), int)
                seen[count] = True
        self.assertGreater(max(seen), 5)

    def test_pairs_that_are_missing_are_never_come_to(self):
        chance = random.Random(95)
        missing = 0
        for turn in range(100):
            house = some_house(chance, 2, 3, 3 + turn % 8)
            given = pairs(house)
            for room, sign, other in [(p, a, q) for p in range(2) for a in range(3) for q in range(2)]:
                self.assertEqual(given.get((room, sign, other)), least(house, ending(house, [other]), (room, [sign])))
                missing += (room, sign, other) not in given
        self.assertGreater(missing, 200)


class Sizes(Checked):
    def test_houses_and_machines_by_chance(self):
        chance = random.Random(96)
        for rooms, signs in ((8, 10), (8, 50), (2, 200), (8, 300)):
            with self.subTest(rooms=rooms, signs=signs):
                house = some_house(chance, rooms, signs, 800)
                machine = some_machine(chance, house, 400, 4000, plain=True, ends=40)
                stack = [chance.randrange(signs) for _ in range(100)]
                with in_seconds(self):
                    self.check_way(house, machine, (0, stack), 400)
                with in_seconds(self):
                    pairs(house)

    def test_high_prices_in_eight_rooms(self):
        # The rooms count, and a sign takes about twice as many steps as the one below it.
        rules = [(room, 0, (room + 1) % 8, ()) for room in range(8)]
        for sign in range(1, 99):
            rules.extend((room, sign, (room + sign) % 8, (sign - 1, sign - 1)) for room in range(8))
        house = (8, 300, rules)
        with in_seconds(self):
            given = pairs(house)
        self.assertEqual({(room, sign): count for (room, sign, other), count in given.items()},
                         {(room, sign): 2 ** (sign + 1) - 1 for room in range(8) for sign in range(99)})
        machine = some_machine(random.Random(97), (8, 1, []), 400, 4000, plain=True, ends=392)
        with in_seconds(self):
            self.assertGreater(least(house, machine, (0, [98] * 100)), 2 ** 98)


if __name__ == "__main__":
    unittest.main()
