"""Point [2]: what is handed in stays as it is, and what is given back is the asker's own."""

import copy
import unittest

from callwalk.asking import answer, choices, kept_out
from callwalk.build import beginning, house_of, point_of
from callwalk.errors import Endless
from callwalk.forward import forward, leak
from callwalk.heads import head_steps, heads_of, ring, till
from callwalk.houses import cut, steps, stuck_heads
from callwalk.lasting import failing, longest, tiers
from callwalk.machines import common, is_plain, takes
from callwalk.making import ending, heading, joining, listing
from callwalk.prices import prices
from callwalk.programs import read, shown
from callwalk.runs import ran, returns
from callwalk.ways import least, pairs, way

HOUSE = (2, 2, [
    (0, 0, 0, (0, 1)),
    (0, 0, 0, ()),
    (0, 1, 0, (0,)),
    (0, 0, 0, (0, 1)),
])

# No run goes on without end here.
LASTING = (2, 3, [(0, 0, 0, (1, 2)), (0, 1, 1, ()), (1, 2, 0, ()), (0, 0, 0, (2,))])

TEXT = "values 2 2; main: call f, any own, stop; f: fork 3, turn shared, call f, back"
PROGRAM = (2, 2, [
    ("main", [("call", "f"), ("any", "own"), ("stop",)]),
    ("f", [("fork", 3), ("turn", "shared"), ("call", "f"), ("back",)]),
])

# A plain machine, and one that is not.
PLAIN = (4, [(0, 0, 2), (0, 0, 3), (0, 1, 2), (2, 1, 3), (3, 1, 3)], [1, 3])
NOT_PLAIN = (3, [(0, 0, 1), (0, 1, 0), (1, 1, 2)], [2])

# For each function, asked in several ways: what is handed in.
ASKED = [
    (steps, (HOUSE, (0, [0, 1, 1]))),
    (steps, (HOUSE, (0, []))),
    (steps, (HOUSE, (1, [0]))),
    (stuck_heads, (HOUSE,)),
    (cut, (HOUSE, [(0, 0), (0, 0), (1, 1)])),
    (cut, (HOUSE, [(0, 0), (0, 1)])),
    (cut, (HOUSE, [])),
    (ran, (HOUSE, (0, [0, 1]), [])),
    (ran, (HOUSE, (0, []), [])),
    (ran, (HOUSE, (0, [0, 1]), [0, 1, 2])),
    (returns, (HOUSE, (0, [0]), [0, 3, 1, 2, 1])),
    (returns, (HOUSE, (0, [0]), [])),
    (takes, (PLAIN, (0, [0, 1, 1]))),
    (takes, (PLAIN, (1, []))),
    (takes, (NOT_PLAIN, (0, [1, 0, 0]))),
    (is_plain, (HOUSE, PLAIN)),
    (is_plain, (HOUSE, NOT_PLAIN)),
    (common, (HOUSE, PLAIN, NOT_PLAIN)),
    (common, (HOUSE, PLAIN, PLAIN)),
    (common, (HOUSE, NOT_PLAIN, (2, [], []))),
    (listing, (HOUSE, [(0, [1, 0]), (0, [1, 0]), (1, []), (1, [0, 1, 0])])),
    (listing, (HOUSE, [])),
    (heading, (HOUSE, [(1, 1), (0, 0), (1, 1)])),
    (heading, (HOUSE, [])),
    (ending, (HOUSE, [0, 1])),
    (ending, (HOUSE, [1, 0, 1])),
    (ending, (HOUSE, [])),
    (joining, (HOUSE, PLAIN, (3, [(1, 0, 2)], [0, 2]))),
    (joining, (HOUSE, PLAIN, (2, [], []))),
    (joining, (HOUSE, (2, [], []), PLAIN)),
    (prices, (HOUSE, PLAIN)),
    (prices, (HOUSE, (2, [], []))),
    (prices, ((2, 2, []), PLAIN)),
    (least, (HOUSE, PLAIN, (0, [0, 0, 1]))),
    (least, (HOUSE, PLAIN, (1, []))),
    (least, (HOUSE, PLAIN, (1, [0]))),
    (way, (HOUSE, PLAIN, (0, [0, 1, 1]))),
    (way, (HOUSE, PLAIN, (0, [1, 1, 0]))),
    (way, (HOUSE, PLAIN, (1, []), 0)),
    (pairs, (HOUSE,)),
    (pairs, ((2, 2, []),)),
    (leak, (HOUSE, PLAIN)),
    (leak, (HOUSE, NOT_PLAIN)),
    (leak, (HOUSE, (2, [], [0]))),
    (forward, (HOUSE, PLAIN)),
    (forward, (HOUSE, (2, [], []))),
    (forward, ((2, 2, []), PLAIN)),
    (till, (HOUSE, [(0, 0), (0, 0), (1, 1)], [(0, 1), (1, 0), (0, 1)], (0, [0, 1]))),
    (till, (HOUSE, [], [], (0, [0]))),
    (head_steps, (HOUSE,)),
    (head_steps, ((2, 2, []),)),
    (heads_of, (HOUSE, (0, [0, 1]))),
    (heads_of, (HOUSE, (1, [1, 0]))),
    (heads_of, (HOUSE, (0, []))),
    (ring, (HOUSE, (0, [0, 1]))),
    (ring, (HOUSE, (1, [0]))),
    (tiers, (LASTING, (0, [0, 1, 0]))),
    (tiers, (LASTING, (1, []))),
    (longest, (LASTING, (0, [0, 1, 0]))),
    (longest, (LASTING, (1, []))),
    (failing, (LASTING, [(0, 1), (1, 1), (0, 1)], (0, [0, 2, 0]))),
    (failing, (LASTING, [], (0, [0]))),
    (failing, (HOUSE, [(0, 1), (0, 0)], (0, [0, 1]))),
    (failing, (HOUSE[:2] + (HOUSE[2][:1] + HOUSE[2][2:],), [(1, 1)], (0, [0, 1]))),
    (read, (TEXT,)),
    (shown, (PROGRAM,)),
    (point_of, (PROGRAM, "f", 2)),
    (house_of, (PROGRAM,)),
    (beginning, (PROGRAM,)),
    (answer, (TEXT, "come f 3 1")),
    (answer, (TEXT, "surely main 2")),
    (choices, (TEXT, "come f 3 1")),
    (choices, (TEXT, "come main 0", 0)),
    (kept_out, (TEXT, "end")),
    (kept_out, (TEXT, "come main 0 1")),
]

# For each refusal, asked in several ways: what is handed in.
REFUSED = [(asked, (HOUSE, (0, [0, 1]), numbers)) for asked in (ran, returns)
           for numbers in ([0, 1, 9], [0, 1, 1], [-1])] + [
    (joining, (HOUSE, PLAIN, NOT_PLAIN)),
    (joining, (HOUSE, NOT_PLAIN, PLAIN)),
    (prices, (HOUSE, NOT_PLAIN)),
    (least, (HOUSE, NOT_PLAIN, (0, [0]))),
    (way, (HOUSE, NOT_PLAIN, (0, [0]))),
    (way, (HOUSE, PLAIN, (1, [0, 1]))),
    (way, (HOUSE, (2, [], [0]), (0, [1, 1]), 3)),
    (forward, (HOUSE, NOT_PLAIN)),
    (tiers, (HOUSE, (0, [1, 0, 1]))),
    (longest, (HOUSE, (0, [1, 0, 1]))),
    (point_of, (PROGRAM, "g", 0)),
    (point_of, (PROGRAM, "f", 4)),
    (point_of, (PROGRAM, "f", -1)),
    (read, ([TEXT],)),
    (answer, ([TEXT], "end")),
    (answer, (TEXT, ["end"])),
    (choices, (TEXT, ["end"])),
    (kept_out, (TEXT, ["end"])),
]


def spoil(value):
    if isinstance(value, dict):
        spoil(list(value.values()))
        for key in list(value)[1:]:
            value[key] = "spoilt"
        value.pop(next(iter(value), None), None)
        value["spoilt"] = True
    if isinstance(value, (list, tuple)):
        for part in value:
            spoil(part)
    if isinstance(value, list):
        value.reverse()
        value.append("spoilt")


def kept_in(value):
    # All lists and dicts in it.
    found = [value] if isinstance(value, (list, dict)) else []
    if isinstance(value, (list, tuple)):
        for part in value:
            found.extend(kept_in(part))
    if isinstance(value, dict):
        found.extend(kept_in(list(value.items()))[1:])
    return found


def apart(handed):
    # Each part is copied by itself, so that none is the same list as another, even if one was handed in twice.
    return tuple(copy.deepcopy(part) for part in handed)


class Asker(unittest.TestCase):
    def each(self, check):
        for asked, handed in ASKED:
            with self.subTest(asked=asked.__name__, handed=handed):
                check(asked, apart(handed))

    def test_what_is_handed_in_is_the_same_behind_the_call(self):
        def check(asked, handed):
            before = copy.deepcopy(handed)
            asked(*handed)
            self.assertEqual(handed, before)
        self.each(check)

    def test_it_is_the_same_behind_a_refusal_too(self):
        for asked, one in REFUSED:
            with self.subTest(asked=asked.__name__, handed=one):
                handed = apart(one)
                with self.assertRaises(ValueError):
                    asked(*handed)
                self.assertEqual(handed, one)

    def test_what_is_given_back_may_be_changed(self):
        def check(asked, handed):
            before = copy.deepcopy(handed)
            given = asked(*handed)
            expected = copy.deepcopy(given)
            spoil(given)
            self.assertEqual(handed, before)
            self.assertEqual(asked(*handed), expected)
        self.each(check)

    def test_what_was_handed_in_may_be_changed(self):
        def check(asked, handed):
            fresh = copy.deepcopy(handed)
            given = asked(*handed)
            expected = copy.deepcopy(given)
            spoil(handed)
            self.assertEqual(given, expected)
            self.assertEqual(asked(*fresh), expected)
        self.each(check)

    def test_a_later_question_changes_no_answer(self):
        def check(asked, handed):
            given = asked(*handed)
            expected = copy.deepcopy(given)
            spoil(asked(*handed))
            self.assertEqual(given, expected)
        self.each(check)

    def test_nothing_is_given_back_twice_or_is_what_was_handed_in(self):
        def check(asked, handed):
            kept = [asked(*handed), asked(*handed), handed]
            told = kept_in(tuple(kept))
            self.assertEqual(len({id(one) for one in told}), len(told))
        self.each(check)

    def test_a_house_that_was_changed_is_answered_as_it_is_now(self):
        house = copy.deepcopy(HOUSE)
        self.assertEqual(stuck_heads(house), [(1, 0), (1, 1)])
        self.assertEqual(steps(house, (1, [0])), [])
        house[2].append((1, 0, 0, ()))
        self.assertEqual(stuck_heads(house), [(1, 1)])
        self.assertEqual(steps(house, (1, [0])), [(4, (0, []))])
        self.assertEqual(ran(house, (1, [0]), [4]), (0, []))
        self.assertEqual(cut(house, [(1, 0)]), (2, 2, [(1, 0, 0, ())]))

    def test_a_machine_that_was_changed_is_answered_as_it_is_now(self):
        house, machine = copy.deepcopy((HOUSE, PLAIN))
        self.assertEqual((takes(machine, (1, [0])), is_plain(house, machine)), (False, True))
        self.assertNotIn((1, 0, 2), prices(house, machine))
        machine[1].insert(3, (1, 0, 2))
        machine[2].insert(1, 2)
        self.assertIs(takes(machine, (1, [0])), True)
        self.assertEqual(prices(house, machine)[(1, 0, 2)], (0, None, None))
        self.assertIs(takes(joining(house, machine, (2, [], [])), (1, [0])), True)
        self.assertEqual(common(house, machine, (3, [(1, 0, 2)], [2])), (1, [0]))
        machine[1].append((3, 1, 1))
        self.assertIs(is_plain(house, machine), False)
        house[2].append((1, 1, 1, ()))
        machine[1].pop()
        self.assertEqual(prices(house, machine)[(1, 1, 1)], (1, 4, None))

    def test_what_runs_lead_to_is_answered_as_the_house_is_now(self):
        house, machine, begin = copy.deepcopy((HOUSE, (2, [], [1]), (0, [1])))

        def answers():
            return (least(house, machine, begin), pairs(house), till(house, [(0, 1), (0, 0)], [(1, 0)], begin),
                    head_steps(house)[(0, 0)], heads_of(house, begin), ring(house, begin))
        self.assertEqual(answers(), (None, {(0, 0, 0): 1, (0, 1, 0): 2}, None, [(0, 0), (0, 1)], [(0, 0), (0, 1)],
                                     [(0, 0)]))
        self.assertIs(takes(forward(house, listing(house, [begin])), (1, [])), False)
        house[2].append((0, 0, 1, (0,)))
        house[2].append((1, 0, 1, ()))
        given = answers()
        self.assertEqual(given[0], 3)
        self.assertEqual(given[1], {(0, 0, 0): 1, (0, 1, 0): 2, (1, 0, 1): 1, (0, 0, 1): 2, (0, 1, 1): 3})
        self.assertEqual(given[2:5], (2, [(0, 0), (0, 1), (1, 0), (1, 1)], [(0, 0), (0, 1), (1, 0), (1, 1)]))
        self.assertEqual(way(house, machine, begin), [2, 4, 5])
        self.assertIs(takes(forward(house, listing(house, [begin])), (1, [])), True)
        # And as the standing, the machine and the lists are now.
        begin[1].insert(0, 0)
        machine[2].pop()
        self.assertIsNone(least(house, machine, begin))
        self.assertEqual(way(house, ending(house, [0]), begin), [1, 2, 1])
        house[2].clear()
        self.assertEqual((pairs(house), head_steps(house), heads_of(house, begin), ring(house, begin)),
                         ({}, {}, [(0, 0)], None))

    def test_lasting_is_answered_as_the_house_is_now(self):
        house, goal, begin = copy.deepcopy((LASTING, [(0, 2)], (0, [0])))
        self.assertEqual(tiers(house, begin), {(0, 0): 1, (0, 1): 0, (0, 2): 0, (1, 2): 0})
        self.assertEqual(longest(house, begin), 3)
        self.assertEqual(failing(house, goal, begin), ("ended", 3))
        house[2].append((0, 2, 1, (2,)))
        self.assertEqual(tiers(house, begin), {(0, 0): 2, (0, 1): 0, (0, 2): 1, (1, 2): 0})
        begin[1].append(1)
        self.assertEqual(longest(house, begin), 4)
        goal.append((0, 1))
        self.assertIsNone(failing(house, goal, begin))
        house[2].append((0, 1, 0, (1,)))
        for asked in (tiers, longest):
            self.assertRaises(Endless, asked, house, begin)

    def test_a_program_that_was_changed_is_answered_as_it_is_now(self):
        program = read(TEXT)
        self.assertEqual(program, PROGRAM)
        first = (shown(program), house_of(program), beginning(program))
        program[2].insert(0, ("g", [("skip",), ("back",)]))
        program[2][1][1][1] = ("any", "shared")
        self.assertEqual(shown(program), TEXT.replace("2 2; main", "2 2; g: skip, back; main").replace("own", "shared"))
        self.assertEqual(beginning(program), (0, [4]))
        self.assertEqual((point_of(program, "g", 1), point_of(program, "main", 0)), (1, 2))
        self.assertEqual(house_of(program)[:2], (2, 18))
        self.assertEqual(house_of(program)[2][0], (0, 0, 0, (2,)))
        # Nor does what was done to the program change what its text tells.
        self.assertEqual(read(TEXT), PROGRAM)
        self.assertEqual((shown(PROGRAM), house_of(PROGRAM), beginning(PROGRAM)), first)


if __name__ == "__main__":
    unittest.main()
