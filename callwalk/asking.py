"""Asking: questions of a program's text, their answers, and what bears them out."""

from callwalk.build import beginning, house_of, point_of, sign_of
from callwalk.errors import Endless, NoText, NoValue, Reached
from callwalk.forward import forward
from callwalk.heads import ring
from callwalk.houses import head_of
from callwalk.lasting import failing, longest
from callwalk.making import ending, heading, listing
from callwalk.programs import form_among, read, words_kept
from callwalk.ways import least, pairs, way

# How questions are written: F is a name, K a row's count, A that of an own value, N and M those of shared ones. Those
# with a run or a machine to bear them out stand by themselves.
COMING = (("come", "F", "K"), ("come", "F", "K", "N"), ("end",), ("end", "N"))
OTHERS = (("back", "F", "A", "N", "M"), ("endless",), ("longest",), ("surely", "F", "K"))


def refuse_unless_there(program, words, letter, word):
    if letter == "F":
        # Each procedure has a row 0, so that only the name may be missing.
        point_of(program, word, 0)
    elif letter == "K":
        point_of(program, words[1], word)
    elif word >= program[1 if letter == "A" else 0]:
        raise NoValue("the question tells a value that is not there")


# The words of a question of one of these forms; what they name is there in the program.
def words_asked(program, question, forms):
    if not isinstance(question, str):
        raise NoText("the question is no text")
    form = form_among(question, forms)
    words = words_kept(question, form)
    for letter, word in zip(form[1:], words[1:]):
        refuse_unless_there(program, words, letter, word)
    return words


# Those that are told, or all there are.
def rooms_asked(program, told):
    return list(told) if told else list(range(program[0]))


# All heads with this row of the procedure on top.
def heads_at(program, name, row, rooms):
    point = point_of(program, name, row)
    heads = []
    for own in range(program[1]):
        heads.extend([(room, sign_of(program, point, own)) for room in rooms])
    return heads


# The machine that takes just the standings that a question of COMING asks for.
def machine_asked(program, house, words):
    if words[0] == "end":
        return ending(house, rooms_asked(program, words[1:]))
    return heading(house, heads_at(program, words[1], words[2], rooms_asked(program, words[3:])))


# Piece by piece, since Python refuses to tell a number of very many figures at once.
def figures(number):
    piece = 10 ** 64
    parts = []
    while number >= piece:
        parts.append(str(number % piece).zfill(64))
        number = number // piece
    parts.append(str(number))
    parts.reverse()
    return "".join(parts)


def least_told(number):
    return "no" if number is None else "yes " + figures(number)


def back_told(program, house, words):
    sign = sign_of(program, point_of(program, words[1], 0), words[2])
    return least_told(pairs(house).get((words[3], sign, words[4])))


def longest_told(house, begin):
    try:
        return figures(longest(house, begin))
    except Endless:
        return "endless"


def surely_told(program, house, words):
    goal = heads_at(program, words[1], words[2], rooms_asked(program, ()))
    failed = failing(house, goal, beginning(program))
    if failed is None:
        return "yes"
    if failed[0] == "endless":
        return "no endless"
    return "no " + failed[0] + " " + figures(failed[1])


def answer(text, question):
    program = read(text)
    words = words_asked(program, question, COMING + OTHERS)
    house = house_of(program)
    begin = beginning(program)
    if words[0] == "back":
        return back_told(program, house, words)
    if words[0] == "endless":
        return "no" if ring(house, begin) is None else "yes"
    if words[0] == "longest":
        return longest_told(house, begin)
    if words[0] == "surely":
        return surely_told(program, house, words)
    return least_told(least(house, machine_asked(program, house, words), begin))


# For each rule, how many of those with its head, which fit wherever it does, stand ahead of it.
def places_among(house):
    counts = {}
    places = []
    for rule in house[2]:
        head = head_of(rule)
        places.append(counts.get(head, 0))
        counts[head] = counts.get(head, 0) + 1
    return places


def choices(text, question, most=60):
    program = read(text)
    words = words_asked(program, question, COMING)
    house = house_of(program)
    places = places_among(house)
    numbers = way(house, machine_asked(program, house, words), beginning(program), most)
    return [places[number] for number in numbers]


def kept_out(text, question):
    program = read(text)
    words = words_asked(program, question, COMING)
    house = house_of(program)
    begin = beginning(program)
    if least(house, machine_asked(program, house, words), begin) is not None:
        raise Reached("some run comes to what is asked for")
    return forward(house, listing(house, [begin]))
