"""Programs: read from text, refused where they are wrong, and told as text again.

A program is (shared, own, procedures), a procedure (name, rows), a row the tuple of its words.
"""

from callwalk.errors import NoName, NoRow, NoText, NoValue, Twice

# How parts and rows are written: S is a figure from 1 to 4, V shared or own, F a name, N and K are counts.
VALUES = ("values", "S", "S")
ROWS = (
    ("skip",), ("set", "V", "N"), ("any", "V"), ("turn", "V"), ("if", "V", "N", "K"), ("go", "K"), ("fork", "K"),
    ("call", "F"), ("back",), ("stop",),
)

# Where in a program, and in a pair of a shared and an own value, each of the two is.
PLACES = {"shared": 0, "own": 1}


def is_name(word):
    return 1 <= len(word) <= 8 and all(["a" <= sign <= "z" for sign in word])


def is_count(word):
    if not 1 <= len(word) <= 3 or not all(["0" <= sign <= "9" for sign in word]):
        return False
    return word == "0" or word[0] != "0"


def is_meant(letter, word):
    if letter == "F":
        return is_name(word)
    if letter == "V":
        return word in PLACES
    if letter == "S":
        return word in ("1", "2", "3", "4")
    return is_count(word)


def has_form(words, form):
    if len(words) != len(form) or words[0] != form[0]:
        return False
    return all([is_meant(letter, word) for letter, word in zip(form[1:], words[1:])])


# The form, among these, of the words that the text is made of.
def form_among(text, forms):
    words = text.split(" ")
    for form in forms:
        if has_form(words, form):
            return form
    raise NoText("words that are none of those that may stand here")


# The words as they are kept: all that stands for a number as a number.
def words_kept(text, form):
    words = text.split(" ")
    rest = [word if letter in ("F", "V") else int(word) for letter, word in zip(form[1:], words[1:])]
    return tuple(words[:1] + rest)


def row_in(text):
    return words_kept(text, form_among(text, ROWS))


def procedure_in(part):
    halves = part.split(": ")
    if len(halves) != 2 or not is_name(halves[0]):
        raise NoText("a part that is no procedure")
    return (halves[0], [row_in(row) for row in halves[1].split(", ")])


# The program that the text tells by its form, whatever its names and numbers mean.
def formed_in(text):
    if not isinstance(text, str):
        raise NoText("the program is no text")
    parts = text.split("; ")
    values = words_kept(parts[0], form_among(parts[0], (VALUES,)))
    if len(parts) == 1:
        raise NoText("the program has no procedure")
    return (values[1], values[2], [procedure_in(part) for part in parts[1:]])


def refuse_wrong_row(program, names, rows, place):
    row = rows[place]
    if row[0] == "call" and row[1] not in names:
        raise NoName("a procedure is called that is not there")
    if row[0] in ("set", "if") and row[2] >= program[PLACES[row[1]]]:
        raise NoValue("a row tells a value that is not there")
    if row[0] in ("if", "go", "fork") and row[-1] >= len(rows):
        raise NoRow("a row goes on with one that is not there")
    if place == len(rows) - 1 and row[0] not in ("go", "back", "stop"):
        raise NoRow("behind the last row there is none to go on with")


def read(text):
    program = formed_in(text)
    names = [name for name, rows in program[2]]
    if len(set(names)) < len(names):
        raise Twice("two procedures have one name")
    if "main" not in names:
        raise NoName("no procedure is main")
    for name, rows in program[2]:
        for place in range(len(rows)):
            refuse_wrong_row(program, names, rows, place)
    return program


def row_shown(row):
    return " ".join([str(word) for word in row])


def procedure_shown(name, rows):
    told = ", ".join([row_shown(row) for row in rows])
    return f"{name}: {told}"


def shown(program):
    values = row_shown(("values", program[0], program[1]))
    return "; ".join([values] + [procedure_shown(name, rows) for name, rows in program[2]])
