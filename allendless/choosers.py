"""Choosers: what chooses a digit from what each digit would bring, and the plays of rows of choosers."""

from allendless.judging import menu_of, result_of
from allendless.kinds import put_in
from allendless.needed import Functions
from allendless.plain import MOST_STEPS
from allendless.running import run_term
from allendless.ways import ways


def choice(chooser, values):
    """The digit that a chooser chooses from the function with these values."""
    env = ("values", ("table", values), None)
    return run_term(("call", chooser, ("var", "values")), env, {}, None, MOST_STEPS).made[0]


def outcome(chooser, values):
    """What the digit that a chooser chooses brings."""
    return values[choice(chooser, values)]


def _chooser_at(choosers, i):
    """The chooser of a move."""
    return ("call", choosers, ("number", i))


def _left_behind(program, beginning):
    """The function of a program behind a beginning of its row."""
    functions = Functions()
    number = functions.number_of(ways(program))
    for i, digit in enumerate(beginning):
        number = functions.left_at(number, (i, 0), digit)
    return functions, number


def _play_values(functions, number, choosers):
    """The value of the play from each function that is left on, by the numbers of the functions.

    A move that is not needed changes none of them, whatever its chooser chooses.
    """
    def at_end(value):
        return value

    def at_ask(place, values):
        return outcome(_chooser_at(choosers, place[0]), tuple(values))
    return functions.folded(number, at_end, at_ask)


def play_of(program, choosers, beginning, count):
    """The first entries, so many, of the play of choosers from a beginning on."""
    if count <= len(beginning):
        return beginning[:count]
    size = menu_of(program)[0]
    functions, number = _left_behind(program, beginning)
    values = _play_values(functions, number, choosers)
    entries = list(beginning)
    for i in range(len(beginning), count):
        left = [functions.left_at(number, (i, 0), digit) for digit in range(size)]
        digit = choice(_chooser_at(choosers, i), tuple([values[other] for other in left]))
        entries.append(digit)
        number = left[digit]
    return tuple(entries)


def play_value(program, choosers, beginning):
    """The value of a program on the play of choosers from a beginning on."""
    functions, number = _left_behind(program, beginning)
    return _play_values(functions, number, choosers)[number]


def _needed_moves(functions, number, choosers):
    """The moves of the play that are needed, pairs (i, digit), and the value of the play."""
    values = _play_values(functions, number, choosers)
    moves = []
    top = functions.top_of(number)
    while top[0] == "ask":
        i = top[1][0]
        digit = choice(_chooser_at(choosers, i), tuple([values[branch] for branch in top[2]]))
        moves.append((i, digit))
        top = functions.top_of(top[2][digit])
    return moves, top[1]


def play_term(program, choosers):
    """A term whose row is the play of choosers from () on.

    What is left at a move that is not needed has one value whatever the digit is: that of the whole play.
    """
    size = menu_of(program)[0]
    kind = result_of(program)
    functions, number = _left_behind(program, ())
    moves, value = _needed_moves(functions, number, choosers)
    told = ("number", value) if kind == ("num",) else ("digit", kind[1], value)
    chooser = ("call", ("var", "choosers"), ("var", "move"))
    made = ("call", chooser, ("fn", "digit", ("few", size), told))
    for i, digit in moves[::-1]:
        made = ("if", ("prim", "same", (("var", "move"), ("number", i))), ("digit", size, digit), made)
    return put_in(("row", "move", size, made), "choosers", choosers)
