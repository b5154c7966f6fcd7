"""Programs as text and as they are kept: points [17] and [19], callwalk/programs.py."""

import random
import re
import unittest

from callwalk.errors import NoName, NoRow, NoText, NoValue, Twice, WalkError
from callwalk.programs import read, shown
from helper import in_seconds, some_text

SAMPLE = "values 2 1; main: call f, stop; f: fork 3, turn shared, call f, back"

# Straight by the words of [17].
NAME, COUNT, WHICH = "[a-z]{1,8}", "(?:0|[1-9][0-9]{0,2})", "(?:shared|own)"
ROW = (f"(?:skip|set {WHICH} {COUNT}|any {WHICH}|turn {WHICH}|if {WHICH} {COUNT} {COUNT}|go {COUNT}|fork {COUNT}"
       f"|call {NAME}|back|stop)")
TEXT = re.compile(f"values [1-4] [1-4](?:; {NAME}: {ROW}(?:, {ROW})*)+")


def refusal_by_words(text):
    # Straight by the words of [19]; None where nothing is refused.
    if TEXT.fullmatch(text) is None:
        return NoText
    values, *parts = text.split("; ")
    counts = {"shared": int(values.split()[1]), "own": int(values.split()[2])}
    names = [part.split(":")[0] for part in parts]
    if len(set(names)) != len(names):
        return Twice
    if "main" not in names:
        return NoName
    for part in parts:
        rows = [row.split() for row in part.split(": ")[1].split(", ")]
        for place, (word, *more) in enumerate(rows):
            if word == "call" and more[0] not in names:
                return NoName
            if word in ("set", "if") and int(more[1]) >= counts[more[0]]:
                return NoValue
            if word in ("if", "go", "fork") and int(more[-1]) >= len(rows):
                return NoRow
            if place + 1 == len(rows) and word not in ("go", "back", "stop"):
                return NoRow
    return None


def refusal(text):
    try:
        read(text)
    except WalkError as refused:
        return type(refused)
    return None


class Read(unittest.TestCase):
    def rows(self, *rows, shared=2, own=3):
        # As they are kept, of a procedure that has these rows and one more.
        program = read(f"values {shared} {own}; main: {', '.join(rows)}, stop; f: back")
        self.assertEqual(program[:2], (shared, own))
        self.assertEqual([name for name, kept in program[2]], ["main", "f"])
        self.assertEqual(program[2][0][1][-1], ("stop",))
        return program[2][0][1][:-1]

    def test_the_sample(self):
        given = read(SAMPLE)
        self.assertEqual(given, (2, 1, [
            ("main", [("call", "f"), ("stop",)]),
            ("f", [("fork", 3), ("turn", "shared"), ("call", "f"), ("back",)]),
        ]))

    def test_the_kinds(self):
        program = read("values 3 4; main: if shared 0 1, set own 3, go 0")
        self.assertIs(type(program), tuple)
        self.assertEqual([type(part) for part in program], [int, int, list])
        for procedure in program[2]:
            self.assertEqual((type(procedure), type(procedure[0]), type(procedure[1])), (tuple, str, list))
            for row in procedure[1]:
                self.assertIs(type(row), tuple)
        self.assertEqual([[type(word) for word in row] for row in program[2][0][1]],
                         [[str, str, int, int], [str, str, int], [str, int]])

    def test_each_row(self):
        self.assertEqual(self.rows("skip", "back", "stop"), [("skip",), ("back",), ("stop",)])
        self.assertEqual(self.rows("set shared 1", "set own 2", "set own 0"),
                         [("set", "shared", 1), ("set", "own", 2), ("set", "own", 0)])
        self.assertEqual(self.rows("any shared", "any own"), [("any", "shared"), ("any", "own")])
        self.assertEqual(self.rows("turn shared", "turn own"), [("turn", "shared"), ("turn", "own")])
        self.assertEqual(self.rows("if shared 0 2", "if own 2 0"), [("if", "shared", 0, 2), ("if", "own", 2, 0)])
        self.assertEqual(self.rows("go 1", "fork 2"), [("go", 1), ("fork", 2)])
        self.assertEqual(self.rows("call f", "call main"), [("call", "f"), ("call", "main")])

    def test_the_last_row(self):
        for last, kept in (("go 0", ("go", 0)), ("back", ("back",)), ("stop", ("stop",))):
            self.assertEqual(read(f"values 1 1; main: {last}"), (1, 1, [("main", [kept])]))
            self.assertEqual(read(f"values 1 1; main: skip, {last}"), (1, 1, [("main", [("skip",), kept])]))

    def test_values_from_1_to_4(self):
        for shared in range(1, 5):
            for own in range(1, 5):
                self.assertEqual(read(f"values {shared} {own}; main: back"), (shared, own, [("main", [("back",)])]))

    def test_values_beyond(self):
        for wrong in ("values 0 1", "values 1 0", "values 5 1", "values 1 5", "values 9 9", "values 10 1",
                      "values 1 10", "values 01 1", "values 1 02", "values -1 1", "values +1 1", "values a 1",
                      "values 1", "values", "values 1 1 1", "values  1 1", "values 1  1", "values 1 1 ", " values 1 1",
                      "Values 1 1", "value 1 1", "", "1 1", "values 1,1", "values 11", "values 1 1.", "values1 1",
                      "values \t1 1", "values 1\t1", "values 1 1\n"):
            with self.subTest(wrong=wrong):
                self.assertRaises(NoText, read, f"{wrong}; main: back")

    def test_names(self):
        for name in ("a", "z", "ab", "abcdefgh", "stuvwxyz", "values", "skip", "shared", "call", "go", "back"):
            given = read(f"values 1 1; {name}: back; main: call {name}, stop")
            self.assertEqual(given[2], [(name, [("back",)]), ("main", [("call", name), ("stop",)])])
        for name in ("", "abcdefghi", "A", "aB", "a1", "1", "a_b", "_", "a-b", "a b", " a", "a ", "a:", "a.", "`", "{",
                     "a\n", "\na", "a;", "a,"):
            with self.subTest(name=name):
                self.assertRaises(NoText, read, f"values 1 1; main: stop; {name}: back")
                self.assertRaises(NoText, read, f"values 1 1; {name}: back; main: stop")
                self.assertRaises(NoText, read, f"values 1 1; main: call {name}, stop")

    def test_counts(self):
        rows = ", ".join(["skip"] * 998)
        for count in (0, 1, 9, 10, 19, 99, 100, 101, 998):
            self.assertEqual(read(f"values 1 1; main: go {count}, {rows}, back")[2][0][1][0], ("go", count))
        for count in ("00", "01", "001", "010", "0000", "1000", "1234", "", "-1", "+1", "1.", "a", "1a", "a1", "1 1",
                      " 1", "1 ", "1_0", "0x1", ":", "/", "1\n"):
            with self.subTest(count=count):
                self.assertRaises(NoText, read, f"values 1 1; main: go {count}, {rows}, back")
                self.assertRaises(NoText, read, f"values 1 1; main: fork {count}, {rows}, back")
                self.assertRaises(NoText, read, f"values 1 1; main: set own {count}, {rows}, back")
                self.assertRaises(NoText, read, f"values 1 1; main: if own 0 {count}, {rows}, back")
                self.assertRaises(NoText, read, f"values 1 1; main: if own {count} 0, {rows}, back")

    def test_counts_of_three_figures_and_of_four(self):
        self.assertEqual(refusal("values 1 1; main: go 999"), NoRow)
        self.assertEqual(refusal("values 1 1; main: go 1000"), NoText)
        self.assertEqual(refusal("values 1 1; main: set own 999, back"), NoValue)
        self.assertEqual(refusal("values 1 1; main: set own 1000, back"), NoText)

    def test_rows_with_too_few_or_too_many_words(self):
        for row in ("skip 1", "skip skip", "set", "set own", "set 1", "set 1 own", "set own 1 1", "set other 1",
                    "set shared own", "any", "any 1", "any own 1", "any other", "turn", "turn own 1", "turn other",
                    "if", "if own", "if own 1", "if own 1 1 1", "if 1 1", "if other 1 1", "go", "go f", "go 1 1",
                    "fork", "fork f", "fork 1 1", "call", "call 1", "call f f", "call f 1", "back 1", "back f",
                    "stop 1", "stop stop", "", " ", "jump", "Skip", "skip.", "skipp", "ski", "1", "f", "own", "any Own",
                    "values 1 1", "skip: back"):
            with self.subTest(row=row):
                self.assertRaises(NoText, read, f"values 2 2; main: {row}, back; f: back")
                self.assertRaises(NoText, read, f"values 2 2; main: back, {row}; f: back")
                self.assertRaises(NoText, read, f"values 2 2; f: {row}; main: back")

    def test_blanks_and_signs_between(self):
        for text in (
                "values 1 1;main: back", "values 1 1;  main: back", "values 1 1 ; main: back",
                "values 1 1, main: back", "values 1 1: main: back", "values 1 1 main: back",
                "values 1 1; ; main: back", "; values 1 1; main: back", "values 1 1; main:back",
                "values 1 1; main:  back", "values 1 1; main : back", "values 1 1; main back",
                "values 1 1; main:: back", "values 1 1; main: : back", "values 1 1; main; back", "values 1 1; : back",
                "values 1 1; main: skip,back", "values 1 1; main: skip,  back", "values 1 1; main: skip , back",
                "values 1 1; main: skip back", "values 1 1; main: skip, , back", "values 1 1; main: , back",
                "values 1 1; main: skip; back", "values 1 1; main: skip,, back", "values 1 1; main: set  own 0, back",
                "values 1 1; main: set own  0, back", "values 1 1; main:\tback", "values 1 1;\nmain: back",
                "values 1 1; main: set\town 0, back", "values 1 1; main: f: back"):
            with self.subTest(text=text):
                self.assertRaises(NoText, read, text)

    def test_signs_at_the_ends(self):
        text = "values 1 1; main: back"
        self.assertIsNone(refusal(text))
        for more in (" ", ";", "; ", ",", ", ", ":", ": ", "\n", "\t", ".", "; f", "; f:", "; f: ", ", back,", "\n\n"):
            with self.subTest(more=more):
                self.assertRaises(NoText, read, text + more)
                self.assertRaises(NoText, read, more + text)

    def test_too_few_parts(self):
        for text in ("", " ", ";", "; ", "values 1 1", "values 1 1;", "values 1 1; ", "main: back", "values 1 1; main",
                     "values 1 1; main:", "values 1 1; main: ", "values 1 1; values 1 1", "main: back; values 1 1"):
            with self.subTest(text=text):
                self.assertRaises(NoText, read, text)

    def test_what_is_no_text(self):
        for thing in (None, 0, 7, True, False, [], [SAMPLE], (SAMPLE,), {}, {SAMPLE: True}, SAMPLE.encode(), 1.5,
                      read(SAMPLE), object(), SAMPLE.split("; ")):
            with self.subTest(thing=thing):
                self.assertRaises(NoText, read, thing)

    def test_twice(self):
        for text in ("values 1 1; main: back; main: back", "values 1 1; f: back; main: back; f: stop",
                     "values 1 1; main: back; f: go 0; g: back; g: back",
                     "values 1 1; main: back; f: back; main: stop"):
            with self.subTest(text=text):
                self.assertRaises(Twice, read, text)

    def test_no_main(self):
        for text in ("values 1 1; f: back", "values 1 1; mains: back", "values 1 1; mai: back; n: back",
                     "values 1 1; f: call main, back"):
            with self.subTest(text=text):
                self.assertRaises(NoName, read, text)

    def test_a_call_of_what_is_not_there(self):
        for text in ("values 1 1; main: call f, back", "values 1 1; main: skip, call mai, back; mail: back",
                     "values 1 1; main: back; f: call g, back"):
            with self.subTest(text=text):
                self.assertRaises(NoName, read, text)
        # It may stand further on, or be the procedure itself.
        self.assertIsNone(refusal("values 1 1; main: call f, back; f: call main, call f, back"))

    def test_values_that_are_not_there(self):
        for shared in range(1, 5):
            for own in range(1, 5):
                for which, count in (("shared", shared), ("own", own)):
                    for value in range(6):
                        expected = None if value < count else NoValue
                        for row in (f"set {which} {value}", f"if {which} {value} 0"):
                            self.assertEqual(refusal(f"values {shared} {own}; main: {row}, back"), expected)

    def test_rows_that_are_not_there(self):
        for row in ("if own 0", "go", "fork"):
            self.assertIsNone(refusal(f"values 1 1; main: {row} 2, skip, back"))
            for place in (3, 4, 30, 999):
                self.assertEqual(refusal(f"values 1 1; main: {row} {place}, skip, back"), NoRow)
            # Each procedure's rows count for itself.
            self.assertEqual(refusal(f"values 1 1; main: {row} 2, back; f: skip, skip, back"), NoRow)
        self.assertIsNone(refusal("values 1 1; main: go 0"))
        self.assertEqual(refusal("values 1 1; main: go 1"), NoRow)

    def test_a_last_row_behind_which_one_is_due(self):
        for last in ("skip", "set own 0", "any own", "turn shared", "if own 0 0", "fork 0", "call main", "call f"):
            for text in (f"values 1 1; main: {last}; f: back", f"values 1 1; main: skip, {last}; f: back",
                         f"values 1 1; main: back; f: back, {last}"):
                with self.subTest(text=text):
                    self.assertRaises(NoRow, read, text)
        for last in ("go 0", "back", "stop"):
            self.assertIsNone(refusal(f"values 1 1; main: {last}; f: skip, {last}"))

    def test_the_form_ahead_of_all_else(self):
        for wrong in ("main: back; main: back", "f: back", "main: call f, back", "main: set own 9, back", "main: go 9",
                      "main: skip"):
            self.assertIsNotNone(refusal(f"values 1 1; {wrong}"))
            self.assertNotEqual(refusal(f"values 1 1; {wrong}"), NoText)
            for text in (f"values 1 5; {wrong}", f"values 1 1; {wrong}; g: jump", f"values 1 1; g: ; {wrong}",
                         f"values 1 1; {wrong};"):
                self.assertEqual(refusal(text), NoText)

    def test_twice_ahead_of_no_name_ahead_of_the_rows(self):
        self.assertEqual(refusal("values 1 1; f: back; f: back"), Twice)
        self.assertEqual(refusal("values 1 1; main: call g, back; main: back"), Twice)
        self.assertEqual(refusal("values 1 1; f: go 9; main: set own 1, back; f: skip"), Twice)
        self.assertEqual(refusal("values 1 1; f: go 9"), NoName)
        self.assertEqual(refusal("values 1 1; f: set own 9, back"), NoName)
        self.assertEqual(refusal("values 1 1; f: skip"), NoName)

    def test_the_first_wrong_row_from_the_left(self):
        wrong = {"call g": NoName, "set own 1": NoValue, "go 9": NoRow, "if shared 1 0": NoValue, "fork 4": NoRow}
        for first, expected in wrong.items():
            for second in wrong:
                self.assertEqual(refusal(f"values 1 1; main: skip, {first}, {second}, back"), expected)
                self.assertEqual(refusal(f"values 1 1; main: {first}, back; f: {second}, back"), expected)
                self.assertEqual(refusal(f"values 1 1; f: back, {first}, back; main: {second}, back"), expected)
            # The last row of the first procedure stands to the left of all rows of the next one.
            self.assertEqual(refusal(f"values 1 1; f: skip; main: {first}, back"), NoRow)
            self.assertEqual(refusal(f"values 1 1; f: {first}, skip; main: back"), expected)

    def test_two_refusals_due_for_one_row(self):
        # A call of what is not there, and a value that is not there, each ahead of the row.
        self.assertEqual(refusal("values 1 1; main: call f"), NoName)
        self.assertEqual(refusal("values 1 1; main: set own 1"), NoValue)
        self.assertEqual(refusal("values 1 1; main: if own 1 9, back"), NoValue)
        self.assertEqual(refusal("values 1 1; main: if shared 1 0"), NoValue)
        self.assertEqual(refusal("values 1 1; main: if own 0 9"), NoRow)

    def test_two_texts_of_one_program_are_the_same(self):
        self.assertEqual(read(SAMPLE), read(SAMPLE))
        self.assertNotEqual(read(SAMPLE), read(SAMPLE.replace("turn", "any")))

    def test_by_chance(self):
        chance = random.Random(171)
        seen = {}
        signs = "; :,, 0123459abfgo"
        words = ("skip", "set own 1", "if shared 2 3", "go 4", "fork 1", "call f", "call g", "back", "main", "stop",
                 ", back", "; ", ": ", ", ", "; f: back", " 0")
        for turn in range(6000):
            text = some_text(chance, 1 + turn % 4, 1 + turn % 3, 1 + turn % 4, 4)
            self.assertIsNone(refusal(text))
            for change in range(1 + turn % 2):
                place = chance.randrange(len(text) + 1)
                cut_off = chance.choice((0, 0, 1, 1, 2, 5))
                put = chance.choice((chance.choice(signs), chance.choice(words), ""))
                text = text[:place] + put + text[place + cut_off:]
            expected = refusal_by_words(text)
            self.assertEqual(refusal(text), expected, text)
            seen[expected] = seen.get(expected, 0) + 1
        self.assertLessEqual({None, NoText, NoName, NoValue, NoRow}, set(seen))
        self.assertGreater(min(seen[None], seen[NoText]), 200)

    def test_wrong_rows_by_chance(self):
        chance = random.Random(172)
        seen = {}
        rows = ("skip", "go 0", "go 2", "go 9", "fork 1", "fork 3", "set own 0", "set own 1", "set shared 1", "back",
                "set shared 2", "if own 0 0", "if own 1 5", "if shared 1 3", "call f", "call g", "call main", "stop")
        for turn in range(4000):
            parts = [f"{name}: " + ", ".join(chance.choices(rows, k=chance.randrange(1, 4)) + ["back"] * (turn % 4 > 0))
                     for name in chance.choices(("main", "f", "g"), k=1 + turn % 3)]
            text = "; ".join(["values 2 1"] + parts)
            expected = refusal_by_words(text)
            self.assertEqual(refusal(text), expected, text)
            seen[expected] = seen.get(expected, 0) + 1
        self.assertEqual(set(seen), {None, Twice, NoName, NoValue, NoRow})
        self.assertGreater(min(seen.values()), 100)


class Shown(unittest.TestCase):
    def test_the_sample(self):
        given = shown(read(SAMPLE))
        self.assertIs(type(given), str)
        self.assertEqual(given, SAMPLE)

    def test_a_program_that_was_not_read(self):
        program = (4, 3, [("f", [("if", "shared", 3, 0), ("set", "own", 2), ("go", 1)]),
                          ("main", [("any", "own"), ("turn", "shared"), ("skip",), ("fork", 1), ("call", "f"),
                                    ("back",), ("stop",)])])
        text = ("values 4 3; f: if shared 3 0, set own 2, go 1; "
                "main: any own, turn shared, skip, fork 1, call f, back, stop")
        self.assertEqual(shown(program), text)
        self.assertEqual(read(text), program)

    def test_counts_of_several_figures(self):
        rows = ", ".join(["skip"] * 998)
        for count in (0, 9, 10, 100, 998):
            text = f"values 1 1; main: go {count}, {rows}, back"
            self.assertEqual(shown(read(text)), text)

    def test_by_chance(self):
        chance = random.Random(173)
        for turn in range(500):
            text = some_text(chance, 1 + turn % 4, 1 + turn % 3, 1 + turn % 4, 7)
            self.assertEqual(shown(read(text)), text)


class Sizes(unittest.TestCase):
    def test_long_texts(self):
        names = ["main"] + [first + second for first in "abcdefgh" for second in "abcdefghijklmnopqrst"]
        many = "; ".join(["values 4 4"] + [f"{name}: call main, fork 0, back" for name in names[:135]])
        long = "values 4 4; main: " + "skip, " * 660 + "back"
        for text in (many, long):
            self.assertGreater(len(text), 3900)
            with in_seconds(self):
                self.assertEqual(shown(read(text)), text)
                self.assertRaises(NoText, read, text + ";")
                self.assertRaises(Twice, read, text + "; main: back")
                self.assertRaises(NoName, read, text.replace("main", "mains"))
                self.assertRaises(NoRow, read, text + "; x: skip")

    def test_long_things_that_are_no_programs(self):
        for text in ("a" * 4000, " " * 4000, "; " * 2000, ", " * 2000, "values 1 1; main: " + ", " * 1990,
                     "values 1 1; " + "a" * 3988, "values 1 1; main: go " + "9" * 3979):
            with in_seconds(self):
                self.assertRaises(NoText, read, text)


if __name__ == "__main__":
    unittest.main()
