"""Point [2]: what is handed in stays as it is, and what is given back is the asker's own."""

import copy
import unittest

from callwalk.houses import cut, steps, stuck_heads
from callwalk.runs import ran, returns

HOUSE = (2, 2, [
    (0, 0, 0, (0, 1)),
    (0, 0, 0, ()),
    (0, 1, 0, (0,)),
    (0, 0, 0, (0, 1)),
])

# For each function, asked in several ways: what is handed in behind the house.
ASKED = [
    (steps, ((0, [0, 1, 1]),)),
    (steps, ((0, []),)),
    (steps, ((1, [0]),)),
    (stuck_heads, ()),
    (cut, ([(0, 0), (0, 0), (1, 1)],)),
    (cut, ([(0, 0), (0, 1)],)),
    (cut, ([],)),
    (ran, ((0, [0, 1]), [])),
    (ran, ((0, []), [])),
    (ran, ((0, [0, 1]), [0, 1, 2])),
    (returns, ((0, [0]), [0, 3, 1, 2, 1])),
    (returns, ((0, [0]), [])),
]


def spoil(value):
    if isinstance(value, tuple):
        for part in value:
            spoil(part)
    if isinstance(value, list):
        for part in value:
            spoil(part)
        value.reverse()
        value.append("spoilt")


def lists_in(value):
    found = [value] if isinstance(value, list) else []
    if isinstance(value, (list, tuple)):
        for part in value:
            found.extend(lists_in(part))
    return found


class Asker(unittest.TestCase):
    def each(self, check):
        for asked, rest in ASKED:
            with self.subTest(asked=asked.__name__, rest=rest):
                check(asked, copy.deepcopy((HOUSE,) + rest))

    def test_what_is_handed_in_is_the_same_behind_the_call(self):
        def check(asked, handed):
            before = copy.deepcopy(handed)
            asked(*handed)
            self.assertEqual(handed, before)
        self.each(check)

    def test_it_is_the_same_behind_a_refusal_too(self):
        for asked in (ran, returns):
            for numbers in ([0, 1, 9], [0, 1, 1], [-1]):
                handed = copy.deepcopy((HOUSE, (0, [0, 1]), numbers))
                before = copy.deepcopy(handed)
                with self.assertRaises(ValueError):
                    asked(*handed)
                self.assertEqual(handed, before)

    def test_what_is_given_back_may_be_changed(self):
        def check(asked, handed):
            before = copy.deepcopy(handed)
            given = asked(*handed)
            expected = copy.deepcopy(given)
            spoil(given)
            self.assertEqual(handed, before)
            self.assertEqual(asked(*handed), expected)
        self.each(check)

    def test_what_was_handed_in_may_be_changed(self):
        def check(asked, handed):
            fresh = copy.deepcopy(handed)
            given = asked(*handed)
            expected = copy.deepcopy(given)
            spoil(handed)
            self.assertEqual(given, expected)
            self.assertEqual(asked(*fresh), expected)
        self.each(check)

    def test_a_later_question_changes_no_answer(self):
        def check(asked, handed):
            given = asked(*handed)
            expected = copy.deepcopy(given)
            spoil(asked(*handed))
            self.assertEqual(given, expected)
        self.each(check)

    def test_no_list_is_given_back_twice_or_is_one_handed_in(self):
        def check(asked, handed):
            lists = lists_in(asked(*handed)) + lists_in(asked(*handed)) + lists_in(handed)
            self.assertEqual(len({id(one) for one in lists}), len(lists))
        self.each(check)

    def test_a_house_that_was_changed_is_answered_as_it_is_now(self):
        house = copy.deepcopy(HOUSE)
        self.assertEqual(stuck_heads(house), [(1, 0), (1, 1)])
        self.assertEqual(steps(house, (1, [0])), [])
        house[2].append((1, 0, 0, ()))
        self.assertEqual(stuck_heads(house), [(1, 1)])
        self.assertEqual(steps(house, (1, [0])), [(4, (0, []))])
        self.assertEqual(ran(house, (1, [0]), [4]), (0, []))
        self.assertEqual(cut(house, [(1, 0)]), (2, 2, [(1, 0, 0, ())]))


if __name__ == "__main__":
    unittest.main()
