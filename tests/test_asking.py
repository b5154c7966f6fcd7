"""Questions, their answers, choices and machines that keep out: points [1] and [21] to [23], callwalk/asking.py."""

import random
import unittest

from callwalk.asking import answer, choices, figures, kept_out
from callwalk.build import beginning, house_of, point_of
from callwalk.errors import NoName, NoRow, NoText, NoValue, NoWay, Reached, TooLong, Twice, WalkError
from callwalk.forward import leak
from callwalk.heads import ring
from callwalk.houses import steps
from callwalk.machines import common, takes
from callwalk.making import ending, heading
from callwalk.programs import read
from helper import BEGUN, check_form, done, in_seconds, some_text

SAMPLE = "values 2 1; main: call f, stop; f: fork 3, turn shared, call f, back"

# What is refused of a program, whatever is asked.
WRONG_TEXTS = [
    ("values 5 1; main: back", NoText), ("", NoText), (None, NoText), (7, NoText), (["values 1 1; main: back"], NoText),
    ("values 1 1; main: back; main: back", Twice), ("values 1 1; f: back", NoName),
    ("values 1 1; main: call f, back", NoName), ("values 1 1; main: set own 1, back", NoValue),
    ("values 1 1; main: go 1", NoRow), ("values 1 1; main: skip", NoRow)]

NO_QUESTIONS = [
    None, 0, True, [], ["end"], ("come", "main", 0), b"end", 1.5, {},
    "", " ", "go", "main", "come", "come main", "come main 0 0 0", "come 0 main", "come 0", "come main main",
    "come main 00", "come main 01", "come main 1000", "come main -1", "come main +1", "come Main 0", "come mainmainm 0",
    "come main 0 ", " come main 0", "come  main 0", "come main  0", "come main 0 00", "come main 0 1000",
    "come main 0 a", "come main 0, end", "Come main 0", "come main 0\n", "come\tmain 0", "come main 0;",
    "end ", " end", "end main", "end 00", "end 01", "end 1000", "end 0 0", "End", "ends", "end\n", "end -1",
    "back", "back main", "back main 0", "back main 0 0", "back main 0 0 0 0", "back 0 0 0 0", "back main 0 0 a",
    "back main 00 0 0", "back main 0 1000 0", "back main 0 0 0 ", "back main 0 0 01",
    "endless 0", "endless main", "endless ", "Endless", "longest 0", "longest main", "longest\n", "longest ",
    "surely", "surely main", "surely main 0 0", "surely 0", "surely main 00", "surely main a", "surely main 0 "]


def machine_for(program, question):
    # What is asked for, by the words of [21].
    house = house_of(program)
    word, *more = question.split()
    if word == "end":
        return ending(house, [int(more[0])] if more else list(range(program[0])))
    rooms = [int(more[2])] if len(more) == 3 else range(program[0])
    point = point_of(program, more[0], int(more[1]))
    return heading(house, [(room, point * program[1] + own) for room in rooms for own in range(program[1])])


def is_asked(question, now):
    # Straight by the words of [21].
    word, *more = question.split()
    shared, going = now
    if word == "end":
        return not going and more in ([], [str(shared)])
    return bool(going) and going[0][:2] == (more[0], int(more[1])) and (len(more) == 2 or int(more[2]) == shared)


def least_by_runs(program, question, now, most, barred=None):
    # Over all runs of so many steps at the most, and of those the ones with nothing barred.
    seen, here = set(), [now]
    for count in range(most + 1):
        here = [there for there in dict.fromkeys(here) if there not in seen and not (barred and barred(there))]
        if any(is_asked(question, there) for there in here):
            return count
        seen.update(here)
        here = [there for one in here for there in done(program, one)]
    return None


def some_question(chance, program, words):
    name, rows = chance.choice(program[2])
    row = chance.randrange(len(rows))
    shared = chance.randrange(program[0])
    return chance.choice([question for question in (
        f"come {name} {row}", f"come {name} {row} {shared}", "end", f"end {shared}", "endless", "longest",
        f"surely {name} {row}", f"back {name} {chance.randrange(program[1])} {shared} {chance.randrange(program[0])}")
        if question.split()[0] in words])


def refusal(asked, *handed):
    try:
        asked(*handed)
    except WalkError as refused:
        return type(refused)
    return None


def doubling_text(count):
    # Each procedure calls the next one twice: one that is n ahead of the last takes 2 ** (n + 2) - 3 steps.
    names = ["main"] + [first + second for first in "abcdefgh" for second in "abcdefghijklmnopqrst"][:count]
    parts = [f"{name}: call {other}, call {other}, back" for name, other in zip(names, names[1:])]
    return "; ".join(["values 1 1"] + parts + [f"{names[-1]}: back"])


class Answer(unittest.TestCase):
    def check(self, text, expected):
        for question, told in expected.items():
            with self.subTest(question=question):
                given = answer(text, question)
                self.assertIs(type(given), str)
                self.assertEqual(given, told)

    def test_the_sample(self):
        self.check(SAMPLE, {
            "come main 0": "yes 0", "come main 1": "yes 3", "come f 0": "yes 1", "come f 3": "yes 2",
            "come main 0 0": "yes 0", "come main 0 1": "no", "come main 1 1": "yes 7", "come f 0 1": "yes 4",
            "end": "no", "end 0": "no", "end 1": "no",
            "back f 0 0 0": "yes 2", "back f 0 0 1": "yes 6", "back main 0 0 0": "no",
            "endless": "yes", "longest": "endless",
            "surely f 0": "yes", "surely main 0": "yes", "surely main 1": "no endless", "surely f 1": "no stuck 3"})

    def test_come(self):
        self.check("values 2 2; main: skip, fork 4, turn own, go 0, turn shared, back, skip, stop", {
            "come main 0": "yes 0", "come main 1": "yes 1", "come main 2": "yes 2", "come main 3": "yes 3",
            "come main 4": "yes 2", "come main 5": "yes 3", "come main 6": "no", "come main 7": "no",
            "come main 0 0": "yes 0", "come main 0 1": "no", "come main 5 0": "no", "come main 5 1": "yes 3",
            "come main 4 0": "yes 2", "come main 4 1": "no"})

    def test_come_with_any_own_value(self):
        # Row 1 of f is on top with the own value 2 alone, row 3 with 1 alone.
        self.check("values 1 3; main: set own 2, call f, stop; f: if own 1 3, set own 1, go 0, back", {
            "come f 0": "yes 2", "come f 2": "yes 4", "come f 3": "yes 6", "come main 2": "yes 7"})

    def test_come_to_a_row_that_is_not_on_top(self):
        # Main waits at its row 1 beneath f, which never comes back.
        self.check("values 1 1; main: call f, stop; f: go 0", {"come main 1": "no", "come f 0": "yes 1"})

    def test_end(self):
        self.check("values 3 1; main: fork 3, set shared 1, back, skip, back", {
            "end": "yes 3", "end 0": "yes 3", "end 1": "yes 3", "end 2": "no"})
        self.check("values 1 1; main: back", {"end": "yes 1", "end 0": "yes 1"})
        self.check("values 1 1; main: stop", {"end": "no", "end 0": "no"})
        self.check("values 1 1; main: go 0", {"end": "no", "end 0": "no"})
        # The return of f is no end, and main, called once more, ends the call alone.
        self.check("values 2 1; main: if shared 1 4, turn shared, call main, stop, back", {"end": "no", "end 1": "no"})
        self.check("values 2 1; main: if shared 1 4, turn shared, call main, back, back", {"end": "yes 6"})

    def test_back(self):
        text = "values 2 2; main: stop; f: if own 1 3, turn shared, back, if shared 0 1, back"
        self.check(text, {
            "back f 0 0 1": "yes 3", "back f 0 0 0": "no", "back f 0 1 0": "yes 3", "back f 0 1 1": "no",
            "back f 1 0 1": "yes 4", "back f 1 0 0": "no", "back f 1 1 1": "yes 3", "back f 1 1 0": "no",
            "back main 0 0 0": "no", "back main 1 1 1": "no"})
        self.check("values 1 1; main: back; f: back", {"back main 0 0 0": "yes 1", "back f 0 0 0": "yes 1"})

    def test_back_for_a_call_that_is_never_done(self):
        self.check("values 2 1; main: stop; f: skip, call g, back; g: turn shared, back", {
            "come f 0": "no", "back f 0 0 1": "yes 5", "back f 0 1 0": "yes 5", "back f 0 1 1": "no",
            "back g 0 1 0": "yes 2"})

    def test_back_by_the_shortest_way(self):
        self.check("values 2 1; main: stop; f: fork 4, skip, skip, back, turn shared, fork 7, call f, back", {
            "back f 0 0 0": "yes 4", "back f 0 0 1": "yes 4", "back f 0 1 0": "yes 4"})

    def test_endless(self):
        self.check("values 1 1; main: go 0", {"endless": "yes", "longest": "endless"})
        self.check("values 1 1; main: fork 0, back", {"endless": "yes", "longest": "endless"})
        self.check("values 1 1; main: call main, back", {"endless": "yes", "longest": "endless"})
        self.check("values 1 1; main: call f, go 0; f: back", {"endless": "yes", "longest": "endless"})
        self.check("values 1 1; main: back", {"endless": "no", "longest": "1"})
        self.check("values 1 1; main: call f, go 0; f: stop", {"endless": "no", "longest": "1"})
        # What goes on without end is not come to.
        self.check("values 1 1; main: call f, stop; f: back; g: go 0", {"endless": "no", "longest": "2"})
        self.check("values 2 1; main: if shared 1 2, stop, go 2", {"endless": "no", "longest": "1"})

    def test_longest(self):
        self.check("values 1 1; main: stop", {"longest": "0", "endless": "no"})
        self.check("values 1 1; main: fork 3, skip, skip, skip, fork 7, skip, stop, skip, skip, skip, back", {
            "longest": "9"})
        self.check("values 4 1; main: if shared 3 3, turn shared, go 0, stop", {"longest": "10"})
        # Four calls within one another, each with another own value.
        self.check("values 1 4; main: call f, back; f: if own 3 3, turn own, call f, back", {"longest": "16"})

    def test_surely(self):
        text = "values 1 1; main: fork 3, call f, stop, call f, fork 6, call g, back; f: back; g: stop"
        self.check(text, {
            "surely f 0": "yes", "surely main 0": "yes", "surely main 2": "no ended 5", "surely main 4": "no stuck 3",
            "surely main 6": "no stuck 3", "surely g 0": "no ended 5", "surely main 1": "no ended 5"})
        self.check("values 1 1; main: fork 3, call f, back, call f, back; f: fork 0, back", {
            "surely f 0": "yes", "surely f 1": "no endless", "surely main 1": "no ended 5",
            "surely main 4": "no ended 5"})
        self.check("values 1 1; main: stop", {"surely main 0": "yes"})
        self.check("values 1 1; main: back; f: back", {"surely f 0": "no ended 1", "surely main 0": "yes"})
        self.check("values 1 1; main: stop; f: back", {"surely f 0": "no stuck 0"})
        self.check("values 1 1; main: go 0; f: back", {"surely f 0": "no endless"})

    def test_surely_with_all_values(self):
        # Row 2 comes with the shared value 0 on some runs and with 1 on the others.
        self.check("values 2 2; main: any shared, any own, skip, if own 1 0, stop", {
            "surely main 2": "yes", "surely main 3": "yes", "surely main 4": "no endless"})

    def test_calls_within_calls(self):
        # F calls itself till its own value is 3, and counts up the shared value as it goes back.
        text = "values 4 4; main: call f, stop; f: if own 3 3, turn own, call f, turn shared, back"
        self.check(text, {
            "come f 4": "yes 12", "come f 4 1": "yes 12", "come f 4 2": "yes 14", "come main 1": "yes 19",
            "come main 1 0": "yes 19", "come main 1 1": "no", "back f 0 0 0": "yes 18", "back f 3 0 1": "yes 3",
            "back f 2 3 1": "yes 8", "end": "no", "longest": "19", "surely main 1": "yes", "endless": "no"})

    def test_numbers_of_many_figures(self):
        for count in (1, 2, 10, 100):
            text = doubling_text(count)
            steps_done = 2 ** (count + 2) - 3
            last = read(text)[2][-1][0]
            self.check(text, {
                "end": f"yes {steps_done}", "end 0": f"yes {steps_done}", "longest": f"{steps_done}",
                "back main 0 0 0": f"yes {steps_done}", "come main 2": f"yes {steps_done - 1}",
                f"surely {last} 0": "yes", f"come {last} 0": f"yes {count}", "endless": "no"})
            self.check(text + "; x: back", {"surely x 0": f"no ended {steps_done}"})
            stuck = text.replace(" back", " stop", 1)
            self.check(stuck + "; x: back", {"surely x 0": f"no stuck {steps_done - 1}", "end": "no"})

    def test_figures(self):
        for number in (0, 1, 9, 10, 10 ** 63, 10 ** 64 - 1, 10 ** 64, 10 ** 64 + 1, 10 ** 128 - 1, 10 ** 128,
                       7 * 10 ** 200 + 5, 3 ** 900, 10 ** 4000 + 10 ** 70):
            self.assertEqual(figures(number), str(number))
        # More than Python itself tells at once.
        self.assertEqual(figures(10 ** 20000 + 7), "1" + "0" * 19999 + "7")
        self.assertEqual(figures(10 ** 20000 - 1), "9" * 20000)

    def test_a_row_and_a_name_that_are_words_of_the_program(self):
        self.check("values 1 1; main: call end, stop; end: call come, back; come: back", {
            "come end 0": "yes 1", "come come 0": "yes 2", "surely come 0": "yes", "back end 0 0 0": "yes 3"})


class Refused(unittest.TestCase):
    TEXT = "values 2 3; main: skip, call f, stop; f: back"

    def each(self, question, expected):
        with self.subTest(question=question):
            self.assertEqual(refusal(answer, self.TEXT, question), expected)
            if question.split()[0] in ("come", "end"):
                self.assertEqual(refusal(choices, self.TEXT, question), expected)
                self.assertEqual(refusal(kept_out, self.TEXT, question), expected)

    def test_the_program_first(self):
        for text, expected in WRONG_TEXTS:
            for question in ("end", "come main 0", "come x 99", "end 999", "surely x 0", "nonsense", "", None, 7):
                for asked in (answer, choices, kept_out):
                    with self.subTest(asked=asked.__name__, text=text, question=question):
                        self.assertEqual(refusal(asked, text, question), expected)

    def test_what_is_no_question(self):
        for question in NO_QUESTIONS:
            for asked in (answer, choices, kept_out):
                with self.subTest(asked=asked.__name__, question=question):
                    self.assertEqual(refusal(asked, self.TEXT, question), NoText)

    def test_no_name(self):
        for name in ("x", "mai", "mains", "skip", "abcdefgh"):
            for question in (f"come {name} 0", f"come {name} 0 0", f"back {name} 0 0 0", f"surely {name} 0"):
                self.each(question, NoName)

    def test_no_row(self):
        for name, count in (("main", 3), ("f", 1)):
            for row in (count, count + 1, 10, 999):
                for question in (f"come {name} {row}", f"come {name} {row} 0", f"surely {name} {row}"):
                    self.each(question, NoRow)
            for word in ("come", "surely"):
                self.assertIsNone(refusal(answer, self.TEXT, f"{word} {name} {count - 1}"))

    def test_no_value(self):
        for question in ("come main 0 2", "come f 0 3", "come f 0 999", "end 2", "end 3", "end 999", "back f 3 0 0",
                         "back f 0 2 0", "back f 0 0 2", "back main 4 0 0", "back f 0 999 0", "back f 999 999 999"):
            self.each(question, NoValue)
        for question in ("come main 0 1", "end 1", "back f 2 1 1", "back main 2 1 0"):
            self.assertIsNone(refusal(answer, self.TEXT, question))
        # Where there are more shared values than own ones.
        text = "values 3 2; main: back"
        self.assertEqual(answer(text, "back main 1 2 2"), "yes 1")
        for question in ("back main 2 0 0", "back main 0 3 0", "back main 0 0 3"):
            self.assertEqual(refusal(answer, text, question), NoValue)

    def test_word_by_word_from_the_left(self):
        self.each("come x 9", NoName)
        self.each("come x 9 9", NoName)
        self.each("come x 0 9", NoName)
        self.each("come f 1 2", NoRow)
        self.each("come main 9 9", NoRow)
        self.each("surely x 9", NoName)
        self.each("back x 9 9 9", NoName)
        self.each("back x 0 0 9", NoName)

    def test_the_words_ahead_of_what_they_name(self):
        for question in ("come x 00", "come x 9 1000", "come x", "end 1000", "back x 9 9", "back x 9 9 a",
                         "surely x 09", "surely x 9 9"):
            self.each(question, NoText)

    def test_other_questions_have_no_choices_and_no_machine(self):
        for question in ("back f 0 0 0", "back x 0 0 0", "back f 9 9 9", "endless", "longest", "surely main 0",
                         "surely x 9", "surely main 9"):
            for asked in (choices, kept_out):
                with self.subTest(asked=asked.__name__, question=question):
                    self.assertEqual(refusal(asked, self.TEXT, question), NoText)

    def test_what_is_refused_ahead_of_what_is_told(self):
        # The answer would be no, or the way too long, or what is asked for come to.
        for question, expected in (("come f 9", NoRow), ("come x 0", NoName), ("end 2", NoValue),
                                   ("come f 0 2", NoValue), ("ending", NoText)):
            self.assertEqual(refusal(choices, self.TEXT, question, 0), expected)
            self.assertEqual(refusal(kept_out, self.TEXT, question), expected)


class Choices(unittest.TestCase):
    def check(self, text, question, *most):
        # Walked as the rows are told, and over the rules that fit: it leads to what was asked for.
        given = choices(text, question, *most)
        program = read(text)
        house, here, now = house_of(program), beginning(program), BEGUN
        self.assertIs(type(given), list)
        for choice in given:
            self.assertIs(type(choice), int)
            self.assertGreaterEqual(choice, 0)
            here = steps(house, here)[choice][1]
            now = done(program, now)[choice]
        self.assertTrue(is_asked(question, now))
        self.assertTrue(takes(machine_for(program, question), here))
        self.assertEqual(answer(text, question), f"yes {len(given)}")
        return given

    def test_the_sample(self):
        self.assertEqual(self.check(SAMPLE, "come main 1"), [0, 1, 0])
        self.assertEqual(self.check(SAMPLE, "come f 3 1"), [0, 0, 0, 0, 1])
        self.assertEqual(self.check(SAMPLE, "come main 1 1"), [0, 0, 0, 0, 1, 0, 0])

    def test_no_step(self):
        self.assertEqual(self.check(SAMPLE, "come main 0"), [])
        self.assertEqual(self.check(SAMPLE, "come main 0 0", 0), [])

    def test_which_value_is_chosen(self):
        text = "values 4 3; main: any shared, any own, if own 2 4, stop, fork 0, back"
        self.assertEqual(self.check(text, "end 3"), [3, 2, 0, 0, 0])
        self.assertEqual(self.check(text, "end 0"), [0, 2, 0, 0, 0])
        self.assertEqual(self.check(text, "come main 5 1"), [1, 2, 0, 0])

    def test_no_way(self):
        for question in ("end", "end 0", "end 1", "come main 0 1"):
            for most in ((), (0,), (1000,)):
                with self.subTest(question=question, most=most):
                    self.assertRaises(NoWay, choices, SAMPLE, question, *most)

    def test_too_long_just_above_most(self):
        self.assertEqual(len(self.check(SAMPLE, "come main 1 1", 7)), 7)
        self.assertEqual(len(self.check(SAMPLE, "come main 1 1", 8)), 7)
        for most in (0, 1, 5, 6):
            self.assertRaises(TooLong, choices, SAMPLE, "come main 1 1", most)

    def test_most_by_its_name(self):
        self.assertEqual(choices(SAMPLE, "come main 1", most=3), [0, 1, 0])
        self.assertRaises(TooLong, choices, SAMPLE, "come main 1", most=2)
        self.assertEqual(choices(text=SAMPLE, question="come main 0", most=0), [])

    def test_most_left_out(self):
        text = "values 1 1; main: " + "skip, " * 61 + "back"
        self.assertEqual(len(self.check(text, "come main 60")), 60)
        self.assertRaises(TooLong, choices, text, "come main 61")
        self.assertRaises(TooLong, choices, text, "end")
        self.assertEqual(len(self.check(text, "end", 62)), 62)
        self.assertRaises(TooLong, choices, text, "end", 61)

    def test_most_0(self):
        self.assertRaises(TooLong, choices, SAMPLE, "come f 0", 0)
        self.assertEqual(choices(SAMPLE, "come main 0", 0), [])

    def test_a_run_that_is_far_too_long(self):
        text = doubling_text(100)
        for most in ((), (0,), (10 ** 20,)):
            self.assertRaises(TooLong, choices, text, "end", *most)

    def test_a_long_run(self):
        self.assertEqual(self.check(doubling_text(6), "end", 400), [0] * 253)


class KeptOut(unittest.TestCase):
    def check(self, text, question):
        self.assertEqual(answer(text, question), "no")
        given = kept_out(text, question)
        program = read(text)
        house = house_of(program)
        check_form(self, house, given)
        self.assertIsNone(leak(house, given))
        self.assertTrue(takes(given, beginning(program)))
        self.assertIsNone(common(house, given, machine_for(program, question)))
        return given

    def test_the_sample(self):
        for question in ("end", "end 0", "end 1", "come main 0 1"):
            self.check(SAMPLE, question)

    def test_programs_of_one_row(self):
        self.check("values 1 1; main: stop", "end")
        self.check("values 4 4; main: stop", "come main 0 3")
        self.check("values 1 1; main: go 0", "end 0")
        self.check("values 2 1; main: back", "end 1")

    def test_a_row_that_is_beneath_but_never_on_top(self):
        self.check("values 2 2; main: call f, turn shared, back; f: call f, back", "come main 1")
        self.check("values 2 2; main: call f, turn shared, back; f: call f, back", "come f 1")
        self.check("values 2 2; main: call f, turn shared, back; f: call f, back", "end")

    def test_reached(self):
        for question in ("come main 0", "come main 0 0", "come main 1", "come f 3 1", "come main 1 1"):
            self.assertRaises(Reached, kept_out, SAMPLE, question)
        self.assertRaises(Reached, kept_out, "values 1 1; main: back", "end")
        self.assertRaises(Reached, kept_out, doubling_text(100), "end 0")

    def test_one_shared_value_is_come_to_and_another_is_not(self):
        text = "values 3 1; main: call f, call f, back; f: set shared 2, back"
        self.check(text, "end 0")
        self.check(text, "end 1")
        self.check(text, "come main 1 0")
        self.assertRaises(Reached, kept_out, text, "end 2")
        self.assertRaises(Reached, kept_out, text, "end")


class ByChance(unittest.TestCase):
    def some(self, seed, count, words):
        chance = random.Random(seed)
        for turn in range(count):
            text = some_text(chance, 1 + turn % 3, 1 + turn % 2, 1 + turn % 4, 3 + turn % 4)
            program = read(text)
            yield text, program, some_question(chance, program, words)

    def test_come_and_end(self):
        seen = {}
        for text, program, question in self.some(211, 1500, ("come", "end")):
            told = answer(text, question)
            expected = least_by_runs(program, question, BEGUN, 6)
            if told == "no":
                self.assertIsNone(expected)
                self.assertRaises(NoWay, choices, text, question)
                KeptOut.check(self, text, question)
            else:
                given = Choices.check(self, text, question, 400)
                self.assertEqual(len(given) if len(given) <= 6 else None, expected)
                self.assertRaises(Reached, kept_out, text, question)
                if given:
                    self.assertRaises(TooLong, choices, text, question, len(given) - 1)
            kind = (question.split()[0], told)
            seen[kind] = seen.get(kind, 0) + 1
        self.assertLessEqual({(word, told) for word in ("come", "end") for told in ("no", "yes 2", "yes 3", "yes 4")},
                             set(seen))

    def test_back(self):
        seen = {}
        for text, program, question in self.some(212, 1500, ("back",)):
            word, name, own, shared, other = question.split()
            begin = (int(shared), ((name, 0, int(own)),))
            told = answer(text, question)
            expected = least_by_runs(program, f"end {other}", begin, 6)
            if expected is None:
                self.assertNotIn(told, [f"yes {count}" for count in range(7)])
            else:
                self.assertEqual(told, f"yes {expected}")
            seen[told] = True
        self.assertLessEqual({"no"} | {f"yes {count}" for count in range(1, 6)}, set(seen))

    def test_endless_and_longest(self):
        seen = {}
        for text, program, question in self.some(213, 2000, ("end",)):
            lasts = ring(house_of(program), beginning(program)) is not None
            self.assertEqual(answer(text, "endless"), "yes" if lasts else "no")
            told = answer(text, "longest")
            count, here = 0, done(program, BEGUN)
            # Where a run goes on without end there is one of any number of steps.
            while here and count < (12 if lasts else 1000):
                count, here = count + 1, dict.fromkeys([there for one in here for there in done(program, one)])
            self.assertEqual(told, "endless" if lasts else str(count))
            self.assertEqual(bool(here), lasts)
            seen[told] = True
        self.assertLessEqual({"endless"} | {str(count) for count in range(9)}, set(seen))

    def test_surely(self):
        seen = {}
        for text, program, question in self.some(214, 2000, ("surely",)):
            goal = question.replace("surely", "come")
            told = answer(text, question)
            found, here = {}, [BEGUN]
            for count in range(9):
                here = [one for one in dict.fromkeys(here) if not is_asked(goal, one)]
                if any(not one[1] for one in here):
                    found.setdefault("ended", count)
                if any(one[1] and not done(program, one) for one in here):
                    found.setdefault("stuck", count)
                here = [there for one in here for there in done(program, one)]
            kind, number = (told.split() + ["", ""])[1:3]
            if kind in ("ended", "stuck"):
                self.assertEqual(found.get(kind), int(number) if int(number) < 9 else None)
            else:
                self.assertEqual(found, {})
                self.assertTrue(kind == "" or here)
            if kind == "stuck":
                self.assertNotIn("ended", found)
            seen[told] = True
        self.assertLessEqual({"yes", "no endless", "no stuck 0", "no stuck 1", "no stuck 3", "no ended 1",
                              "no ended 3"}, set(seen))


class Sizes(unittest.TestCase):
    def ask_all(self, text, last):
        program = read(text)
        house = house_of(program)
        for question in (f"come {last} 0", f"come {last} 0 0", "end", f"end {program[0] - 1}", "back main 0 0 0",
                         f"back {last} 0 0 0", "endless", "longest", f"surely {last} 0"):
            with self.subTest(text=text[:60], question=question), in_seconds(self):
                told = answer(text, question)
                if question.split()[0] in ("come", "end"):
                    if told == "no":
                        given = kept_out(text, question)
                        self.assertIsNone(leak(house, given))
                        self.assertRaises(NoWay, choices, text, question)
                    else:
                        self.assertRaises(Reached, kept_out, text, question)
                        refused = refusal(choices, text, question)
                        self.assertEqual(refused, None if int(told.split()[1]) <= 60 else TooLong)

    def test_calls_within_calls(self):
        text = doubling_text(140)
        self.assertGreater(len(text), 3900)
        self.ask_all(text, read(text)[2][-1][0])
        self.ask_all(text.replace("values 1 1", "values 4 4"), read(text)[2][-1][0])

    def test_many_rows_of_many_rules(self):
        for rows in ("any own, any shared, ", "fork 0, ", "call f, ", "turn own, turn shared, ", "if own 0 9, skip, "):
            text = "values 4 4; main: any own, any shared, " + rows * (3900 // len(rows)) + "back; f: any shared, back"
            self.assertGreater(len(text), 3900)
            self.ask_all(text, "f")

    def test_a_ring_of_very_many_heads(self):
        # All rows with all values, one behind another, and then again from the first.
        text = "values 4 4; main: " + "skip, " * 650 + "turn own, if own 0 653, go 0, turn shared, go 0; f: back"
        self.assertGreater(len(text), 3900)
        self.ask_all(text, "f")
        self.assertEqual((answer(text, "endless"), answer(text, "surely f 0")), ("yes", "no endless"))
        # Three rounds of 653 steps, then one that goes by the row that turns the shared value.
        self.assertEqual(answer(text, "come main 0 1"), f"yes {3 * 653 + 652 + 2}")

    def test_by_chance(self):
        chance = random.Random(221)
        for shared, own in ((4, 4), (1, 1), (4, 1), (1, 4)):
            text = ""
            while not 3600 < len(text) <= 4000:
                text = some_text(chance, shared, own, 4, 200)
            self.ask_all(text, "f")

    def test_many_procedures_that_call_one_another(self):
        chance = random.Random(222)
        names = ["main"] + [first + second for first in "abcdefgh" for second in "abcdefghijklmnopqrst"][:85]

        def procedure(name):
            called, other = chance.choice(names), chance.choice(names)
            return f"{name}: any shared, fork 4, call {called}, call {other}, turn own, back"
        self.ask_all("; ".join(["values 4 4"] + [procedure(name) for name in names]), names[-1])


if __name__ == "__main__":
    unittest.main()
