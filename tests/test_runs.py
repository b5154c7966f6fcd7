"""Runs, calls and their returns: points [4] and [5], callwalk/runs.py."""

import unittest

from callwalk.errors import NoStep
from callwalk.houses import steps
from callwalk.runs import ran, returns

CALL, BACK, TURN, SIDE, OTHER_BACK = range(5)
HOUSE = (2, 2, [
    (0, 0, 0, (0, 1)),
    (0, 0, 0, ()),
    (0, 1, 0, (0,)),
    (0, 0, 1, (1,)),
    (1, 1, 0, ()),
])
BEGIN = (0, [0])


def all_runs(house, standing, most):
    runs = [([], standing)]
    for numbers, here in runs:
        if len(numbers) < most:
            runs.extend((numbers + [number], there) for number, there in steps(house, here))
    return runs


def paired(house, numbers):
    # Another way to the same: a put of two signs opens a bracket, an empty put shuts the innermost open one.
    pairs, still_open = {}, []
    for step, number in enumerate(numbers):
        put = house[2][number][3]
        if len(put) == 2:
            pairs[step] = None
            still_open.append(step)
        elif len(put) == 0 and still_open:
            pairs[still_open.pop()] = step
    return sorted(pairs.items())


class Ran(unittest.TestCase):
    def test_the_run_of_no_steps(self):
        self.assertEqual(ran(HOUSE, (1, [1, 0]), []), (1, [1, 0]))
        self.assertEqual(ran(HOUSE, (1, []), []), (1, []))
        self.assertEqual(ran((1, 1, []), (0, [0]), []), (0, [0]))

    def test_runs_of_several_steps(self):
        self.assertEqual(ran(HOUSE, BEGIN, [CALL]), (0, [0, 1]))
        self.assertEqual(ran(HOUSE, BEGIN, [CALL, CALL, SIDE]), (1, [1, 1, 1]))
        self.assertEqual(ran(HOUSE, BEGIN, [CALL, SIDE, OTHER_BACK, TURN]), (0, [0]))
        self.assertEqual(ran(HOUSE, BEGIN, [CALL, BACK, TURN, BACK]), (0, []))

    def test_what_lies_beneath_stays(self):
        self.assertEqual(ran(HOUSE, (0, [0, 1, 1, 0]), [SIDE, OTHER_BACK, TURN]), (0, [0, 1, 0]))

    def test_all_short_runs(self):
        for numbers, there in all_runs(HOUSE, BEGIN, 8):
            self.assertEqual(ran(HOUSE, BEGIN, numbers), there)

    def test_the_kinds_given_back(self):
        for numbers in ([], [CALL]):
            given = ran(HOUSE, BEGIN, numbers)
            self.assertIs(type(given), tuple)
            self.assertIs(type(given[1]), list)

    def test_the_longest_run_promised(self):
        self.assertEqual(ran(HOUSE, (0, [0] + [1] * 99), [CALL] * 400), (0, [0] + [1] * 499))


class Returns(unittest.TestCase):
    def test_a_run_without_calls(self):
        self.assertEqual(returns(HOUSE, BEGIN, []), [])
        self.assertEqual(returns(HOUSE, (0, [1, 0]), [TURN, SIDE, OTHER_BACK, BACK]), [])

    def test_a_call_and_its_return(self):
        self.assertEqual(returns(HOUSE, BEGIN, [CALL, BACK]), [(0, 1)])
        self.assertEqual(returns(HOUSE, BEGIN, [CALL, SIDE, OTHER_BACK, TURN, BACK]), [(0, 2)])

    def test_a_call_within_a_call(self):
        self.assertEqual(returns(HOUSE, BEGIN, [CALL, CALL, BACK, TURN, BACK]), [(0, 4), (1, 2)])

    def test_calls_one_behind_the_other(self):
        self.assertEqual(returns(HOUSE, BEGIN, [CALL, BACK, TURN, CALL, BACK]), [(0, 1), (3, 4)])

    def test_a_call_whose_return_is_not_on_the_run(self):
        self.assertEqual(returns(HOUSE, BEGIN, [CALL]), [(0, None)])
        self.assertEqual(returns(HOUSE, BEGIN, [CALL, SIDE]), [(0, None)])
        self.assertEqual(returns(HOUSE, BEGIN, [CALL, CALL, BACK, TURN]), [(0, None), (1, 2)])
        self.assertEqual(returns(HOUSE, BEGIN, [CALL, CALL, CALL, BACK]), [(0, None), (1, None), (2, 3)])

    def test_the_first_such_step_not_a_later_one(self):
        self.assertEqual(returns(HOUSE, BEGIN, [CALL, BACK, TURN, SIDE]), [(0, 1)])

    def test_what_lies_beneath_counts_too(self):
        self.assertEqual(returns(HOUSE, (0, [0, 1, 1]), [BACK, TURN, CALL, BACK, TURN, BACK]), [(2, 3)])

    def test_all_short_runs(self):
        for begin in (BEGIN, (0, [0, 1, 1])):
            for numbers, there in all_runs(HOUSE, begin, 8):
                self.assertEqual(returns(HOUSE, begin, numbers), paired(HOUSE, numbers))

    def test_the_kinds_given_back(self):
        given = returns(HOUSE, BEGIN, [CALL, CALL, BACK])
        self.assertIs(type(given), list)
        for pair in given:
            self.assertIs(type(pair), tuple)

    def test_the_longest_run_promised(self):
        house = (1, 1, [(0, 0, 0, (0, 0)), (0, 0, 0, ())])
        self.assertEqual(returns(house, (0, [0]), [0] * 200 + [1] * 200),
                         [(call, 399 - call) for call in range(200)])


class Refused(unittest.TestCase):
    def refuse(self, standing, numbers):
        for asked in (ran, returns):
            with self.subTest(asked=asked.__name__, standing=standing, numbers=numbers):
                with self.assertRaises(NoStep) as taken:
                    asked(HOUSE, standing, numbers)
                self.assertIs(type(taken.exception), NoStep)

    def test_a_number_below_nought(self):
        # Each rule, counted from the list's end, is tried where it would fit.
        self.refuse((1, [1]), [-1])
        self.refuse(BEGIN, [-2])
        self.refuse(BEGIN, [-4])
        self.refuse(BEGIN, [-5])
        self.refuse(BEGIN, [CALL, -4])
        self.refuse(BEGIN, [-6])

    def test_a_number_beyond_the_last(self):
        self.refuse(BEGIN, [5])
        self.refuse(BEGIN, [6])
        self.refuse(BEGIN, [CALL, CALL, 5, BACK])

    def test_a_number_of_very_many_figures(self):
        self.refuse(BEGIN, [10 ** 5000])
        self.refuse(BEGIN, [-10 ** 5000])

    def test_a_house_without_rules(self):
        for asked in (ran, returns):
            for number in (0, -1):
                with self.assertRaises(NoStep):
                    asked((1, 1, []), (0, [0]), [number])

    def test_a_rule_of_another_sign(self):
        self.refuse(BEGIN, [TURN])

    def test_a_rule_of_another_room(self):
        self.refuse((0, [1]), [OTHER_BACK])
        self.refuse((1, [0]), [CALL])

    def test_in_the_midst_of_a_run(self):
        self.refuse(BEGIN, [CALL, TURN, BACK])
        self.refuse(BEGIN, [CALL, BACK, BACK, TURN])

    def test_at_the_end_of_a_run(self):
        self.refuse(BEGIN, [CALL, BACK, OTHER_BACK])

    def test_no_rule_fits_an_ended_standing(self):
        for number in range(5):
            self.refuse((0, []), [number])
            self.refuse((1, []), [number])
            self.refuse(BEGIN, [BACK, number])


if __name__ == "__main__":
    unittest.main()
