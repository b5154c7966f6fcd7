"""Houses, heads and steps: points [3] to [5], callwalk/houses.py."""

import unittest

from callwalk.houses import cut, steps, stuck_heads
from helper import standings

# Heads with two rules, with one and with none; the same rule twice (0 and 4); puts of none, one and two signs.
HOUSE = (2, 3, [
    (0, 0, 1, (1, 2)),
    (1, 1, 0, ()),
    (0, 0, 0, (2,)),
    (0, 2, 1, ()),
    (0, 0, 1, (1, 2)),
    (1, 0, 1, (0, 0)),
])


def told_steps(house, standing):
    # The same again, straight by the words of [4].
    found = []
    for number in range(len(house[2])):
        room, sign, to, put = house[2][number]
        if standing[1] and standing == (room, [sign] + standing[1][1:]):
            found.append((number, (to, [*put, *standing[1][1:]])))
    return found


class Steps(unittest.TestCase):
    def test_put_of_no_sign_takes_the_top_off(self):
        self.assertEqual(steps(HOUSE, (1, [1, 2, 0])), [(1, (0, [2, 0]))])

    def test_put_of_no_sign_may_end_the_standing(self):
        self.assertEqual(steps(HOUSE, (0, [2])), [(3, (1, []))])

    def test_put_of_one_sign(self):
        house = (2, 3, [(0, 0, 1, (2,))])
        self.assertEqual(steps(house, (0, [0, 1, 0])), [(0, (1, [2, 1, 0]))])

    def test_put_of_two_signs_lays_the_first_on_top(self):
        house = (2, 4, [(0, 0, 1, (1, 2))])
        self.assertEqual(steps(house, (0, [0, 3])), [(0, (1, [1, 2, 3]))])

    def test_just_the_rules_that_fit_in_their_order_the_same_one_twice(self):
        self.assertEqual(steps(HOUSE, (0, [0, 1])), [(0, (1, [1, 2, 1])), (2, (0, [2, 1])), (4, (1, [1, 2, 1]))])

    def test_an_ended_standing_has_no_steps(self):
        self.assertEqual(steps(HOUSE, (0, [])), [])
        self.assertEqual(steps(HOUSE, (1, [])), [])

    def test_a_stuck_standing_has_no_steps(self):
        self.assertEqual(steps(HOUSE, (0, [1, 0])), [])
        self.assertEqual(steps(HOUSE, (1, [2, 1])), [])

    def test_a_house_without_rules(self):
        self.assertEqual(steps((1, 1, []), (0, [0])), [])

    def test_a_sign_beneath_the_top_fits_nothing(self):
        house = (1, 2, [(0, 1, 0, ())])
        self.assertEqual(steps(house, (0, [0, 1])), [])

    def test_room_and_sign_are_not_taken_for_one_another(self):
        house = (2, 2, [(0, 1, 0, ())])
        self.assertEqual(steps(house, (1, [0])), [])
        self.assertEqual(steps(house, (0, [1])), [(0, (0, []))])

    def test_all_short_standings(self):
        for standing in standings(HOUSE, 3):
            with self.subTest(standing=standing):
                self.assertEqual(steps(HOUSE, standing), told_steps(HOUSE, standing))

    def test_the_kinds_given_back(self):
        given = steps(HOUSE, (0, [0, 1]))
        self.assertIs(type(given), list)
        for number, standing in given:
            self.assertIs(type(number), int)
            self.assertIs(type(standing), tuple)
            self.assertIs(type(standing[1]), list)

    def test_the_greatest_house_promised(self):
        rules = [(number % 8, number % 300, (number + 1) % 8, (number % 7, 299)) for number in range(800)]
        given = steps((8, 300, rules), (7, [299] * 100))
        self.assertEqual(given, [(number, (0, [number % 7] + [299] * 100)) for number in range(800)
                                 if number % 8 == 7 and number % 300 == 299])
        self.assertEqual(len(given), 1)


class StuckHeads(unittest.TestCase):
    def test_sorted_and_just_those_that_no_rule_has(self):
        self.assertEqual(stuck_heads(HOUSE), [(0, 1), (1, 2)])

    def test_without_rules_all_heads_are_stuck(self):
        self.assertEqual(stuck_heads((2, 3, [])), [(0, 0), (0, 1), (0, 2), (1, 0), (1, 1), (1, 2)])
        self.assertEqual(stuck_heads((3, 2, [])), [(0, 0), (0, 1), (1, 0), (1, 1), (2, 0), (2, 1)])

    def test_none_is_stuck_where_each_head_has_a_rule(self):
        self.assertEqual(stuck_heads((1, 1, [(0, 0, 0, ())])), [])
        self.assertEqual(stuck_heads((1, 2, [(0, 1, 0, ()), (0, 0, 0, (1,)), (0, 0, 0, (1,))])), [])

    def test_sorted_by_number_not_by_figures(self):
        self.assertEqual(stuck_heads((1, 11, [(0, 1, 0, ())])), [(0, 0)] + [(0, sign) for sign in range(2, 11)])

    def test_what_a_rule_leads_to_is_no_head_of_it(self):
        self.assertEqual(stuck_heads((2, 1, [(0, 0, 1, (0,))])), [(1, 0)])

    def test_the_greatest_house_promised(self):
        rules = [(number % 8, number % 300, 0, ()) for number in range(800)]
        held = {rule[:2] for rule in rules}
        self.assertEqual(stuck_heads((8, 300, rules)),
                         sorted({(room, sign) for room in range(8) for sign in range(300)} - held))

    def test_a_standing_is_stuck_just_where_its_head_is(self):
        stuck = stuck_heads(HOUSE)
        for room, stack in standings(HOUSE, 3):
            if stack:
                with self.subTest(room=room, stack=stack):
                    self.assertEqual(steps(HOUSE, (room, stack)) == [], (room, stack[0]) in stuck)


class Cut(unittest.TestCase):
    def test_just_the_rules_in_their_order_whose_heads_are_told(self):
        rules = HOUSE[2]
        self.assertEqual(cut(HOUSE, [(1, 1), (0, 0)]), (2, 3, [rules[0], rules[1], rules[2], rules[4]]))

    def test_a_head_told_twice(self):
        self.assertEqual(cut(HOUSE, [(0, 2), (1, 1), (0, 2)]), (2, 3, [(1, 1, 0, ()), (0, 2, 1, ())]))

    def test_a_head_that_no_rule_has(self):
        self.assertEqual(cut(HOUSE, [(0, 1)]), (2, 3, []))
        self.assertEqual(cut(HOUSE, [(1, 2), (0, 2)]), (2, 3, [(0, 2, 1, ())]))

    def test_no_heads_at_all(self):
        self.assertEqual(cut(HOUSE, []), (2, 3, []))

    def test_all_heads(self):
        self.assertEqual(cut(HOUSE, [(room, sign) for room in range(2) for sign in range(3)]), HOUSE)

    def test_what_a_rule_leads_to_does_not_count(self):
        house = (2, 2, [(0, 0, 1, (1,)), (1, 1, 0, (0, 0))])
        self.assertEqual(cut(house, [(1, 1)]), (2, 2, [(1, 1, 0, (0, 0))]))

    def test_a_cut_house_is_a_house(self):
        given = cut(HOUSE, [(0, 0)])
        self.assertIs(type(given), tuple)
        self.assertIs(type(given[2]), list)
        self.assertEqual(steps(given, (0, [0])), [(0, (1, [1, 2])), (1, (0, [2])), (2, (1, [1, 2]))])
        self.assertEqual(stuck_heads(given), [(0, 1), (0, 2), (1, 0), (1, 1), (1, 2)])


if __name__ == "__main__":
    unittest.main()
