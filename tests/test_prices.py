"""The prices of a plain machine: point [8], callwalk/prices.py."""

import copy
import random
import unittest

from callwalk.errors import NotPlain
from callwalk.houses import steps
from callwalk.making import ending, heading, listing
from callwalk.prices import prices
from helper import in_seconds, some_house, some_machine

# Rooms 0 and 1, and a machine with states 2 and 3 behind them.
ROOMS = 2


def given_by(house, told, states):
    # All the (arrow, price, rule, mid) that the rules give by the prices told, straight by the words of [8].
    for number, (p, a, q, put) in enumerate(house[2]):
        for s in range(states):
            if len(put) == 0 and s == q:
                yield (p, a, s), 1, number, None
            if len(put) == 1 and (q, put[0], s) in told:
                yield (p, a, s), told[(q, put[0], s)] + 1, number, None
            for m in range(states):
                if len(put) == 2 and (q, put[0], m) in told and (m, put[1], s) in told:
                    yield (p, a, s), told[(q, put[0], m)] + told[(m, put[1], s)] + 1, number, m


def least_prices(house, machine):
    told = {arrow: 0 for arrow in machine[1]}
    while True:
        better = dict(told)
        for arrow, price, number, mid in given_by(house, told, machine[0]):
            better[arrow] = min(price, better.get(arrow, price))
        if better == told:
            return told
        told = better


def fewest_steps(house, begin, most):
    # For each ended standing to which a run of at most so many steps leads, the fewest steps of one.
    fewest, here = {}, [begin]
    for count in range(most + 1):
        for room, stack in here:
            if not stack:
                fewest.setdefault(room, count)
        ahead = {}
        for standing in here:
            for number, (room, stack) in steps(house, standing):
                # A stack that can't be taken off in the steps that are left is let go.
                if len(stack) <= most - count - 1:
                    ahead[(room, tuple(stack))] = True
        here = [(room, list(stack)) for room, stack in ahead]
    return fewest


class Prices(unittest.TestCase):
    def check(self, house, machine):
        given = prices(house, machine)
        self.assertIs(type(given), dict)
        plain = {arrow: value[0] for arrow, value in given.items()}
        self.assertEqual(plain, least_prices(house, machine))
        may_be_told = set(given_by(house, plain, machine[0]))
        for arrow, value in given.items():
            self.assertIs(type(value), tuple)
            self.assertIs(type(value[0]), int)
            if arrow in machine[1]:
                self.assertEqual(value, (0, None, None))
            else:
                self.assertIn((arrow, *value), may_be_told)
        return given

    def test_each_arrow_of_the_machine(self):
        machine = (4, [(0, 0, 2), (0, 0, 3), (1, 2, 2), (2, 1, 3), (3, 0, 3)], [3])
        self.assertEqual(prices((ROOMS, 3, []), machine), {arrow: (0, None, None) for arrow in machine[1]})

    def test_no_arrows_and_no_rules(self):
        self.assertEqual(prices((ROOMS, 3, []), (2, [], [0])), {})

    def test_the_ends_do_not_count(self):
        house = (ROOMS, 2, [(0, 0, 1, ()), (1, 0, 0, (0,))])
        for ends in ([], [0], [0, 1, 2]):
            self.assertEqual(prices(house, (3, [], ends)), prices(house, (3, [], [2])))

    def test_an_arrow_of_the_machine_that_a_rule_gives_too(self):
        house = (ROOMS, 3, [(0, 0, 1, (1,))])
        given = self.check(house, (4, [(0, 0, 3), (1, 1, 3)], [3]))
        self.assertEqual(given, {(0, 0, 3): (0, None, None), (1, 1, 3): (0, None, None)})

    def test_a_put_of_no_sign(self):
        house = (ROOMS, 3, [(0, 2, 1, ()), (1, 1, 1, ())])
        self.assertEqual(prices(house, (2, [], [])), {(0, 2, 1): (1, 0, None), (1, 1, 1): (1, 1, None)})

    def test_a_put_of_one_sign(self):
        house = (ROOMS, 3, [(0, 0, 1, (2,))])
        given = self.check(house, (4, [(1, 2, 2), (1, 2, 3)], [3]))
        self.assertEqual(given[(0, 0, 2)], (1, 0, None))
        self.assertEqual(given[(0, 0, 3)], (1, 0, None))
        self.assertEqual(len(given), 4)

    def test_puts_of_one_sign_one_behind_the_other(self):
        house = (ROOMS, 4, [(0, 0, 0, (1,)), (0, 1, 0, (2,)), (0, 2, 1, (3,)), (1, 3, 0, ())])
        self.assertEqual(self.check(house, (2, [], [])), {
            (1, 3, 0): (1, 3, None), (0, 2, 0): (2, 2, None), (0, 1, 0): (3, 1, None), (0, 0, 0): (4, 0, None)})

    def test_a_put_of_two_signs_over_a_state_of_the_machine(self):
        house = (ROOMS, 3, [(0, 0, 1, (1, 2))])
        given = self.check(house, (4, [(1, 1, 2), (2, 2, 3)], [3]))
        self.assertEqual(given[(0, 0, 3)], (1, 0, 2))
        self.assertEqual(len(given), 3)

    def test_a_put_of_two_signs_over_a_room(self):
        house = (ROOMS, 3, [(0, 0, 1, (1, 2)), (1, 1, 0, ()), (0, 2, 1, ())])
        given = self.check(house, (2, [], [1]))
        self.assertEqual(given, {(1, 1, 0): (1, 1, None), (0, 2, 1): (1, 2, None), (0, 0, 1): (3, 0, 0)})

    def test_a_put_of_two_signs_first_over_a_rule_then_into_the_machine(self):
        house = (ROOMS, 3, [(0, 0, 0, (1, 2)), (0, 1, 1, (2,)), (1, 2, 1, ())])
        given = self.check(house, (3, [(1, 2, 2)], [2]))
        self.assertEqual(given[(0, 0, 2)], (3, 0, 1))
        self.assertEqual(given[(1, 2, 1)], (1, 2, None))

    def test_a_put_of_one_sign_twice_over_one_and_the_same_arrow(self):
        house = (1, 2, [(0, 0, 0, ()), (0, 1, 0, (0, 0))])
        self.assertEqual(self.check(house, (1, [], [0])), {(0, 0, 0): (1, 0, None), (0, 1, 0): (3, 1, 0)})

    def test_the_first_sign_and_the_second_are_not_taken_for_one_another(self):
        house = (ROOMS, 3, [(0, 0, 1, (2, 1))])
        given = self.check(house, (4, [(1, 1, 2), (2, 2, 3)], [3]))
        self.assertEqual(len(given), 2)

    def test_the_second_sign_is_priced_ahead_of_the_first(self):
        # The first sign takes many steps, the second none.
        house = (ROOMS, 5, [(0, 0, 1, (1, 2)), (1, 1, 1, (3,)), (1, 3, 1, (4,)), (1, 4, 0, ())])
        given = self.check(house, (3, [(0, 2, 2)], [2]))
        self.assertEqual(given[(0, 0, 2)], (4, 0, 0))

    def test_the_first_sign_is_priced_ahead_of_the_second(self):
        house = (ROOMS, 5, [(0, 0, 1, (2, 1)), (1, 2, 1, ()), (1, 1, 1, (3,)), (1, 3, 1, (4,)), (1, 4, 0, ())])
        given = self.check(house, (2, [], [0]))
        self.assertEqual(given[(0, 0, 0)], (5, 0, 1))

    def test_the_least_of_several_rules(self):
        slow = (0, 0, 0, (1,))
        quick = (0, 0, 1, ())
        rest = [(0, 1, 0, (2,)), (0, 2, 1, ())]
        self.assertEqual(self.check((ROOMS, 3, [slow, quick] + rest), (2, [], []))[(0, 0, 1)], (1, 1, None))
        self.assertEqual(self.check((ROOMS, 3, [quick, slow] + rest), (2, [], []))[(0, 0, 1)], (1, 0, None))
        self.assertEqual(self.check((ROOMS, 3, [slow] + rest), (2, [], []))[(0, 0, 1)], (3, 0, None))

    def test_the_same_rule_more_than_once(self):
        house = (ROOMS, 1, [(0, 0, 1, ()), (0, 0, 1, ())])
        given = self.check(house, (2, [], []))
        self.assertIn(given[(0, 0, 1)], [(1, 0, None), (1, 1, None)])

    def test_a_cheaper_one_that_is_found_later(self):
        # Over room 0 the put of two costs 1 + 1 + 9; over room 1 it costs 1 + 3 + 0, which shows only later.
        long = [(0, sign, 0, (sign + 1,)) for sign in range(10, 18)] + [(0, 18, 2, ())]
        house = (3, 19, [(2, 0, 2, (1, 2)), (2, 1, 0, ()), (2, 1, 2, (3,)), (2, 3, 2, (4,)), (2, 4, 1, ()),
                         (0, 2, 0, (11,)), (1, 2, 2, ())] + long)
        given = self.check(house, (3, [], []))
        self.assertEqual(given[(0, 2, 2)][0], 9)
        self.assertEqual(given[(2, 0, 2)], (5, 0, 1))

    def test_the_least_of_several_states_in_the_midst(self):
        house = (ROOMS, 4, [(0, 0, 0, (1, 2)), (0, 1, 0, ()), (0, 1, 1, (3,)), (1, 3, 1, ()),
                            (0, 2, 1, (3,)), (1, 2, 1, ())])
        given = self.check(house, (2, [], []))
        # Over 0 it is 1 and 2, over 1 it is 2 and 1.
        self.assertIn(given[(0, 0, 1)], [(4, 0, 0), (4, 0, 1)])
        cheaper = (ROOMS, 4, house[2] + [(0, 2, 1, ())])
        self.assertEqual(self.check(cheaper, (2, [], []))[(0, 0, 1)], (3, 0, 0))
        # And over a state that is no room it is 0 and 0.
        self.assertEqual(self.check(house, (4, [(0, 1, 2), (2, 2, 3)], []))[(0, 0, 3)], (1, 0, 2))

    def test_rules_that_lead_around_in_a_ring(self):
        house = (ROOMS, 3, [(0, 0, 0, (1,)), (0, 1, 0, (2,)), (0, 2, 0, (0,))])
        self.assertEqual(self.check(house, (2, [], [0])), {})
        given = self.check((ROOMS, 3, house[2] + [(0, 1, 1, ())]), (2, [], [0]))
        self.assertEqual(given, {(0, 1, 1): (1, 3, None), (0, 0, 1): (2, 0, None), (0, 2, 1): (3, 2, None)})

    def test_rings_of_calls(self):
        house = (1, 2, [(0, 0, 0, (0, 0)), (0, 1, 0, (0, 1))])
        self.assertEqual(self.check(house, (1, [], [0])), {})
        given = self.check((1, 2, house[2] + [(0, 0, 0, ())]), (1, [], [0]))
        self.assertEqual(given, {(0, 0, 0): (1, 2, None)})
        given = self.check((1, 2, house[2] + [(0, 0, 0, ()), (0, 1, 0, ())]), (1, [], [0]))
        self.assertEqual(given, {(0, 0, 0): (1, 2, None), (0, 1, 0): (1, 3, None)})

    def test_a_rule_to_itself(self):
        house = (1, 1, [(0, 0, 0, (0,)), (0, 0, 0, (0, 0))])
        self.assertEqual(self.check(house, (1, [], [0])), {})
        self.assertEqual(self.check(house, (2, [(0, 0, 1)], [1])), {(0, 0, 1): (0, None, None)})
        given = self.check(house, (2, [(0, 0, 1), (1, 0, 1)], [1]))
        self.assertEqual(given, {(0, 0, 1): (0, None, None), (1, 0, 1): (0, None, None)})

    def test_arrows_that_have_no_price_are_not_there(self):
        house = (ROOMS, 3, [(0, 0, 0, (1, 2)), (0, 1, 1, ()), (0, 2, 1, ()), (1, 1, 0, (0,))])
        given = self.check(house, (3, [], []))
        self.assertEqual(sorted(given), [(0, 1, 1), (0, 2, 1)])

    def test_rules_give_arrows_from_rooms_alone(self):
        chance = random.Random(80)
        for turn in range(20):
            house = some_house(chance, 2, 3, 10)
            machine = some_machine(chance, house, 6, 8, plain=True)
            for arrow in prices(house, machine):
                self.assertTrue(arrow[0] < 2 or arrow in machine[1])

    def test_numbers_of_many_figures(self):
        # Each sign takes one step more than twice as many as the one below it.
        house = (1, 300, [(0, 0, 0, ())] + [(0, sign, 0, (sign - 1, sign - 1)) for sign in range(1, 300)])
        given = prices(house, (1, [], [0]))
        self.assertEqual(given, {(0, sign, 0): (2 ** (sign + 1) - 1, sign, 0 if sign else None) for sign in range(300)})

    def test_machines_that_are_made(self):
        house = (ROOMS, 3, [(0, 0, 1, (1, 2)), (1, 1, 0, ()), (0, 2, 0, (0, 0)), (1, 1, 1, (2,)), (0, 0, 0, ())])
        self.check(house, listing(house, [(0, [0, 1, 2]), (1, []), (1, [2])]))
        self.check(house, heading(house, [(1, 2), (0, 1)]))
        self.check(house, ending(house, [0, 1]))

    def test_houses_and_machines_by_chance(self):
        chance = random.Random(81)
        highest = 0
        for turn in range(1500):
            house = some_house(chance, 1 + turn % 3, 1 + turn % 5, 2 + turn % 13)
            machine = some_machine(chance, house, house[0] + turn % 4, turn % 9, plain=True)
            given = self.check(house, machine)
            highest = max([highest] + [value[0] for value in given.values()])
        # So that the houses thrown do not all have it easy.
        self.assertGreater(highest, 6)

    def test_against_runs(self):
        # Without arrows the price from one room to another is the fewest steps of a run that takes the sign off.
        chance = random.Random(82)
        seen = 0
        for turn in range(200):
            house = some_house(chance, 2, 3, 5 + turn % 5)
            given = prices(house, (2, [], []))
            for room in range(2):
                for sign in range(3):
                    fewest = fewest_steps(house, (room, [sign]), 9)
                    for other in range(2):
                        price = given.get((room, sign, other), (10, None, None))[0]
                        self.assertEqual(price if price <= 9 else None, fewest.get(other))
                        seen = max(seen, price if price <= 9 else 0)
        self.assertGreater(seen, 4)


class Sizes(unittest.TestCase):
    def check_quickly(self, house, machine):
        with in_seconds(self):
            given = prices(house, machine)
        plain = {arrow: value[0] for arrow, value in given.items()}
        for arrow in machine[1]:
            self.assertEqual(given[arrow], (0, None, None))
        for arrow, (price, number, mid) in given.items():
            if number is not None:
                self.assertEqual(self.price_by(house, plain, arrow, number, mid), price)
        self.check_none_is_cheaper(house, machine, plain)
        return given

    def price_by(self, house, plain, arrow, number, mid):
        p, a, q, put = house[2][number]
        self.assertEqual(arrow[:2], (p, a))
        if len(put) == 0:
            self.assertEqual((mid, arrow[2]), (None, q))
            return 1
        if len(put) == 1:
            self.assertIsNone(mid)
            return plain[(q, put[0], arrow[2])] + 1
        return plain[(q, put[0], mid)] + plain[(mid, put[1], arrow[2])] + 1

    def check_none_is_cheaper(self, house, machine, plain):
        beyond = {}
        for (start, sign, to), price in plain.items():
            beyond.setdefault((start, sign), []).append((to, price))
        for p, a, q, put in house[2]:
            least = {}
            if len(put) == 0:
                least[q] = 1
            else:
                for mid, first in beyond.get((q, put[0]), []):
                    for to, second in beyond.get((mid, put[1]), []) if len(put) == 2 else [(mid, 0)]:
                        least[to] = min(first + second + 1, least.get(to, first + second + 1))
            for to, price in least.items():
                self.assertLessEqual(plain.get((p, a, to), price + 1), price)

    def test_houses_and_machines_by_chance(self):
        chance = random.Random(83)
        for signs in (10, 40, 300):
            with self.subTest(signs=signs):
                house = some_house(chance, 8, signs, 800)
                machine = some_machine(chance, house, 400, 4000, plain=True)
                self.check_quickly(house, machine)

    def test_very_many_arrows(self):
        # Nearly all heads of rules come to have an arrow to nearly every state.
        chance = random.Random(84)
        heads = [(room, sign) for sign in range(1, 100) for room in range(8)]
        rules = [(room, sign, chance.randrange(8), (chance.choice([sign - 1, max(0, sign - 2), 0]), 0))
                 for room, sign in heads]
        house = (8, 300, rules + [(room, 0, (room + 3) % 8, ()) for room in range(8)])
        machine = some_machine(chance, (8, 1, []), 400, 4000, plain=True)
        given = self.check_quickly(house, machine)
        self.assertGreater(len(given), 200000)

    def test_very_many_high_prices(self):
        # The rooms count, and a sign takes about twice as many steps as the one below it.
        rules = [(room, 0, (room + 1) % 8, ()) for room in range(8)]
        for sign in range(1, 99):
            rules.extend((room, sign, (room + sign) % 8, (sign - 1, sign - 1)) for room in range(8))
        chance = random.Random(85)
        machine = some_machine(chance, (8, 1, []), 400, 4000, plain=True)
        house = (8, 300, rules)
        given = self.check_quickly(house, machine)
        self.assertGreater(max(value[0] for value in given.values()), 2 ** 90)


class Refused(unittest.TestCase):
    def test_not_plain(self):
        house = (ROOMS, 3, [(0, 0, 1, (1, 2)), (1, 1, 0, ())])
        for machine in ((3, [(0, 0, 1)], [2]), (3, [(0, 0, 2), (2, 1, 0)], [2]), (2, [(1, 1, 1)], []),
                        (3, [(0, 0, 2), (0, 1, 2), (1, 1, 1), (2, 0, 2)], [2])):
            handed = copy.deepcopy((house, machine))
            with self.assertRaises(NotPlain) as taken:
                prices(*handed)
            self.assertIs(type(taken.exception), NotPlain)
            self.assertEqual(handed, (house, machine))

    def test_an_arrow_to_the_last_room_and_to_the_first_state_behind_it(self):
        with self.assertRaises(NotPlain):
            prices((3, 1, []), (4, [(0, 0, 2)], [3]))
        self.assertEqual(prices((3, 1, []), (4, [(0, 0, 3)], [3])), {(0, 0, 3): (0, None, None)})

    def test_a_house_without_rules(self):
        with self.assertRaises(NotPlain):
            prices((1, 1, []), (1, [(0, 0, 0)], [0]))


if __name__ == "__main__":
    unittest.main()
