"""The house of a program, its points and its beginning: points [18] and [20], callwalk/build.py."""

import random
import unittest

from callwalk.build import beginning, house_of, point_of
from callwalk.errors import NoName, NoRow
from callwalk.houses import steps
from callwalk.programs import read
from callwalk.runs import ran, returns
from helper import BEGUN, done, in_seconds, some_text

SAMPLE = "values 2 1; main: call f, stop; f: fork 3, turn shared, call f, back"


def standing_for(program, now):
    shared, going = now
    return (shared, [point_of(program, name, row) * program[1] + own for name, row, own in going])


class PointOf(unittest.TestCase):
    PROGRAM = read("values 1 2; f: skip, skip, back; main: stop; g: go 1, back")

    def test_the_rows_in_the_order_of_the_text(self):
        given = [point_of(self.PROGRAM, name, row) for name, row in (
            ("f", 0), ("f", 1), ("f", 2), ("main", 0), ("g", 0), ("g", 1))]
        self.assertEqual(given, [0, 1, 2, 3, 4, 5])
        self.assertIs(type(given[0]), int)

    def test_a_row_that_is_not_there(self):
        for name, count in (("f", 3), ("main", 1), ("g", 2)):
            for row in (-1, -2, -count, -100, count, count + 1, 1000):
                with self.subTest(name=name, row=row):
                    self.assertRaises(NoRow, point_of, self.PROGRAM, name, row)
            self.assertIsNotNone(point_of(self.PROGRAM, name, count - 1))

    def test_a_name_that_is_not_there(self):
        for name in ("h", "", "F", "ff", "mai", "skip"):
            for row in (0, 1, -1, 3, 1000):
                with self.subTest(name=name, row=row):
                    self.assertRaises(NoName, point_of, self.PROGRAM, name, row)


class Rules(unittest.TestCase):
    def rules(self, shared, own, *rows):
        # Of the first row of main, which these rows and a last one follow; then there is f.
        text = f"values {shared} {own}; main: {', '.join(rows)}, stop; f: back"
        house = house_of(read(text))
        self.assertEqual(house[:2], (shared, (len(rows) + 2) * own))
        return [rule for rule in house[2] if rule[1] < own]

    def test_skip(self):
        self.assertEqual(self.rules(1, 1, "skip"), [(0, 0, 0, (1,))])
        self.assertEqual(self.rules(2, 3, "skip"), [
            (0, 0, 0, (3,)), (1, 0, 1, (3,)), (0, 1, 0, (4,)), (1, 1, 1, (4,)), (0, 2, 0, (5,)), (1, 2, 1, (5,))])

    def test_set(self):
        self.assertEqual(self.rules(3, 2, "set shared 1"), [
            (0, 0, 1, (2,)), (1, 0, 1, (2,)), (2, 0, 1, (2,)), (0, 1, 1, (3,)), (1, 1, 1, (3,)), (2, 1, 1, (3,))])
        self.assertEqual(self.rules(2, 3, "set own 2"), [
            (0, 0, 0, (5,)), (1, 0, 1, (5,)), (0, 1, 0, (5,)), (1, 1, 1, (5,)), (0, 2, 0, (5,)), (1, 2, 1, (5,))])
        self.assertEqual(self.rules(2, 2, "set own 0"), [
            (0, 0, 0, (2,)), (1, 0, 1, (2,)), (0, 1, 0, (2,)), (1, 1, 1, (2,))])

    def test_any(self):
        self.assertEqual(self.rules(2, 2, "any shared"), [
            (0, 0, 0, (2,)), (0, 0, 1, (2,)), (1, 0, 0, (2,)), (1, 0, 1, (2,)),
            (0, 1, 0, (3,)), (0, 1, 1, (3,)), (1, 1, 0, (3,)), (1, 1, 1, (3,))])
        self.assertEqual(self.rules(1, 3, "any own"), [
            (0, sign, 0, (value,)) for sign in range(3) for value in (3, 4, 5)])
        self.assertEqual(self.rules(2, 1, "any own"), [(0, 0, 0, (1,)), (1, 0, 1, (1,))])

    def test_turn(self):
        self.assertEqual(self.rules(3, 1, "turn shared"), [(0, 0, 1, (1,)), (1, 0, 2, (1,)), (2, 0, 0, (1,))])
        self.assertEqual(self.rules(1, 3, "turn own"), [(0, 0, 0, (4,)), (0, 1, 0, (5,)), (0, 2, 0, (3,))])
        self.assertEqual(self.rules(1, 1, "turn own"), [(0, 0, 0, (1,))])
        # The one does not count for the other.
        self.assertEqual(self.rules(2, 3, "turn shared"), [
            (0, 0, 1, (3,)), (1, 0, 0, (3,)), (0, 1, 1, (4,)), (1, 1, 0, (4,)), (0, 2, 1, (5,)), (1, 2, 0, (5,))])

    def test_if(self):
        self.assertEqual(self.rules(3, 1, "if shared 1 3", "skip", "skip"), [
            (0, 0, 0, (1,)), (1, 0, 1, (3,)), (2, 0, 2, (1,))])
        self.assertEqual(self.rules(2, 2, "if own 0 2", "skip"), [
            (0, 0, 0, (4,)), (1, 0, 1, (4,)), (0, 1, 0, (3,)), (1, 1, 1, (3,))])
        self.assertEqual(self.rules(1, 2, "if own 1 0"), [(0, 0, 0, (2,)), (0, 1, 0, (1,))])

    def test_go(self):
        self.assertEqual(self.rules(2, 2, "go 2", "skip"), [
            (0, 0, 0, (4,)), (1, 0, 1, (4,)), (0, 1, 0, (5,)), (1, 1, 1, (5,))])
        self.assertEqual(self.rules(1, 1, "go 0"), [(0, 0, 0, (0,))])

    def test_fork(self):
        self.assertEqual(self.rules(2, 2, "fork 0"), [
            (0, 0, 0, (2,)), (0, 0, 0, (0,)), (1, 0, 1, (2,)), (1, 0, 1, (0,)),
            (0, 1, 0, (3,)), (0, 1, 0, (1,)), (1, 1, 1, (3,)), (1, 1, 1, (1,))])
        # To the next row either way: the same rule twice.
        self.assertEqual(self.rules(1, 1, "fork 1"), [(0, 0, 0, (1,)), (0, 0, 0, (1,))])

    def test_call(self):
        self.assertEqual(self.rules(2, 2, "call f"), [
            (0, 0, 0, (4, 2)), (1, 0, 1, (4, 2)), (0, 1, 0, (5, 3)), (1, 1, 1, (5, 3))])
        self.assertEqual(self.rules(1, 1, "call main"), [(0, 0, 0, (0, 1))])

    def test_back(self):
        self.assertEqual(self.rules(2, 2, "back"), [
            (0, 0, 0, ()), (1, 0, 1, ()), (0, 1, 0, ()), (1, 1, 1, ())])

    def test_stop(self):
        self.assertEqual(self.rules(2, 2, "stop"), [])


class HouseOf(unittest.TestCase):
    def test_the_sample(self):
        given = house_of(read(SAMPLE))
        self.assertEqual(given, (2, 6, [
            (0, 0, 0, (2, 1)), (1, 0, 1, (2, 1)),
            (0, 2, 0, (3,)), (0, 2, 0, (5,)), (1, 2, 1, (3,)), (1, 2, 1, (5,)),
            (0, 3, 1, (4,)), (1, 3, 0, (4,)),
            (0, 4, 0, (2, 5)), (1, 4, 1, (2, 5)),
            (0, 5, 0, ()), (1, 5, 1, ())]))
        self.assertEqual([type(part) for part in given], [int, int, list])
        for rule in given[2]:
            self.assertEqual([type(part) for part in rule], [int, int, int, tuple])

    def test_rows_are_counted_within_their_procedure(self):
        house = house_of(read("values 1 1; f: skip, back; main: fork 2, go 0, call f, stop"))
        self.assertEqual(house, (1, 6, [
            (0, 0, 0, (1,)), (0, 1, 0, ()), (0, 2, 0, (3,)), (0, 2, 0, (4,)), (0, 3, 0, (2,)), (0, 4, 0, (0, 5))]))

    def test_one_row(self):
        self.assertEqual(house_of(read("values 1 1; main: stop")), (1, 1, []))
        self.assertEqual(house_of(read("values 4 2; main: stop")), (4, 2, []))
        self.assertEqual(house_of(read("values 1 1; main: back")), (1, 1, [(0, 0, 0, ())]))

    def test_the_order_of_the_rules(self):
        # By point, then by own value, then by shared value.
        house = house_of(read("values 3 4; main: skip, turn own, turn shared, skip, back"))
        heads = [(rule[1], rule[0]) for rule in house[2]]
        self.assertEqual(heads, [(sign, room) for sign in range(20) for room in range(3)])

    def test_procedures_that_are_called_like_rows(self):
        for name in ("stop", "back", "call", "go", "fork", "skip", "set", "any", "turn", "own"):
            house = house_of(read(f"values 1 1; main: call {name}, stop; {name}: back"))
            self.assertEqual(house, (1, 3, [(0, 0, 0, (2, 1)), (0, 2, 0, ())]))

    def test_a_program_that_was_not_read(self):
        self.assertEqual(house_of((1, 2, [("main", [("any", "own"), ("go", 0)])])), (1, 4, [
            (0, 0, 0, (2,)), (0, 0, 0, (3,)), (0, 1, 0, (2,)), (0, 1, 0, (3,)), (0, 2, 0, (0,)), (0, 3, 0, (1,))]))

    def test_rows_are_done_as_they_are_told(self):
        chance = random.Random(181)
        done_rows = {}
        for turn in range(400):
            program = read(some_text(chance, 1 + turn % 4, 1 + turn % 3, 1 + turn % 4, 6))
            house = house_of(program)
            now = BEGUN
            self.assertEqual(standing_for(program, now), beginning(program))
            for step in range(30):
                ahead = done(program, now)
                given = [there for number, there in steps(house, standing_for(program, now))]
                self.assertEqual(given, [standing_for(program, there) for there in ahead])
                if not ahead:
                    break
                word = dict(program[2])[now[1][0][0]][now[1][0][1]][0]
                done_rows[word] = done_rows.get(word, 0) + 1
                now = chance.choice(ahead)
        self.assertEqual(set(done_rows), {"skip", "set", "any", "turn", "if", "go", "fork", "call", "back"})
        self.assertGreater(min(done_rows.values()), 50)

    def test_a_call_hands_its_own_value_on_and_keeps_it(self):
        program = read("values 2 3; main: set own 1, call f, stop; f: turn own, turn shared, back")
        house, begin = house_of(program), beginning(program)
        numbers, here = [], begin
        while steps(house, here):
            number, here = steps(house, here)[0]
            numbers.append(number)
        # Main is at row 2 with the own value 1 as it was, and the shared value as f made it.
        self.assertEqual(here, (1, [2 * 3 + 1]))
        self.assertEqual(ran(house, begin, numbers[:2]), (0, [3 * 3 + 1, 2 * 3 + 1]))
        self.assertEqual(ran(house, begin, numbers[:3]), (0, [4 * 3 + 2, 2 * 3 + 1]))
        self.assertEqual(returns(house, begin, numbers), [(1, 4)])


class Beginning(unittest.TestCase):
    def test_main_wherever_it_stands(self):
        given = beginning(read("values 2 3; main: back; f: back"))
        self.assertEqual(given, (0, [0]))
        self.assertEqual([type(given), type(given[0]), type(given[1])], [tuple, int, list])
        self.assertEqual(beginning(read("values 2 3; f: skip, back; main: back")), (0, [6]))
        self.assertEqual(beginning(read("values 4 1; f: skip, back; g: back; main: back")), (0, [3]))


class Sizes(unittest.TestCase):
    def test_long_texts(self):
        for rows, each in (("any own, ", 4), ("skip, ", 1), ("fork 0, ", 2), ("call main, ", 1)):
            count = 3970 // len(rows)
            program = read("values 4 4; main: " + rows * count + "back")
            with in_seconds(self):
                house = house_of(program)
            self.assertEqual(house[:2], (4, 4 * (count + 1)))
            self.assertEqual(len(house[2]), 16 * (count * each + 1))


if __name__ == "__main__":
    unittest.main()
