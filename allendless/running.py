"""One run of a term, step by step.

What is still to do and the values that were made stand in two lists: rows may stand on rows and
functions on functions, many thousands deep. To stop at a row is to cut both lists back.

An environment is None or (NAME, VALUE, the environment around). A function is ("fn", TERM, ENVIRONMENT), or
("table", VALUES) if it is told by its values for all digits. A row is ("made", TERM, ENVIRONMENT),
("found", ENTRIES), ("parameter", K) or ("going", GOING), a pair a tuple of two.
"""

from allendless.data import TOP
from allendless.errors import TooGreat
from allendless.judging import parameters_of
from allendless.needed import Functions
from allendless.quantifying import Going, function_of, result_of_ends
from allendless.told import told_entry

MOST_TURNS = 60
GREAT_SIDE = 0


class Run:
    """A run: what is known of the parameters, the steps made, the places read, and what is to do."""

    def __init__(self, most, known, rows):
        self.most = most
        self.known = known
        self.rows = rows
        self.steps = 0
        self.reads = {}
        self.stopped = None
        self.todo = []
        self.made = []

    def plan(self, word, first, second):
        """Do this next."""
        self.todo.append((word, first, second))


def _work_out(run, term, env):
    run.steps += 1
    if run.steps > run.most:
        raise TooGreat("program")
    action = BEGINNINGS[term[0]]
    action(run, term, env)


def _begin_var(run, term, env):
    while env[0] != term[1]:
        env = env[2]
    run.made.append(env[1])


def _begin_digit(run, term, env):
    run.made.append(term[2])


def _begin_number(run, term, env):
    run.made.append(term[1])


def _begin_prim(run, term, env):
    left, right = term[2]
    run.plan("prim", term[1], None)
    run.plan("term", right, env)
    run.plan("term", left, env)


def _begin_as(run, term, env):
    run.plan("as", term[1], None)
    run.plan("term", term[2], env)


def _begin_count(run, term, env):
    run.plan("term", term[1], env)


def _begin_if(run, term, env):
    run.plan("if", term, env)
    run.plan("term", term[1], env)


def _begin_fn(run, term, env):
    run.made.append(("fn", term, env))


def _begin_row(run, term, env):
    run.made.append(("made", term, env))


def _begin_all(run, term, env):
    """call, pair, first, second, repeat, at: the parts in order, then the form itself."""
    run.plan(term[0], None, None)
    for part in term[:0:-1]:
        run.plan("term", part, env)


def _begin_share(run, term, env):
    run.plan("share", term, env)
    run.plan("term", term[4], env)


def _begin_going(run, term, env):
    _go(run, term, env, 0)


def _go(run, term, env, times):
    going = Going(term, env, times, len(run.todo) + 1, len(run.made))
    run.plan("ended", going, None)
    _go_through(run, going)


def _go_through(run, going):
    """Work the quantifier's body out, with what is known of its row now."""
    term = going.term
    run.plan("term", term[5] if term[0] == "contest" else term[3], going.env)


def _add(left, right):
    return min(left + right, TOP)


def _less(left, right):
    return max(left - right, 0)


def _times(left, right):
    return min(left * right, TOP)


def _over(left, right):
    return 0 if right == 0 else left // right


def _rest(left, right):
    return 0 if right == 0 else left % right


def _below(left, right):
    return 1 if left < right else 0


def _same(left, right):
    return 1 if left == right else 0


OPERATIONS = {
    "add": _add, "less": _less, "times": _times, "over": _over, "rest": _rest, "below": _below, "same": _same,
}


def _end_prim(run, word, _):
    right = run.made.pop()
    left = run.made.pop()
    action = OPERATIONS[word]
    run.made.append(action(left, right))


def _end_as(run, size, _):
    run.made.append(run.made.pop() % size)


def _end_if(run, term, env):
    run.plan("term", term[2] if run.made.pop() == 1 else term[3], env)


def _end_call(run, first, second):
    value = run.made.pop()
    _apply(run, run.made.pop(), value)


def _apply(run, function, value):
    """Work the body of a function out with a value for its name; one that is told by its values takes no step."""
    if function[0] == "table":
        run.made.append(function[1][value])
        return
    _, term, env = function
    run.plan("term", term[3], (term[1], value, env))


def _end_pair(run, first, second):
    right = run.made.pop()
    run.made.append((run.made.pop(), right))


def _end_first(run, first, second):
    run.made.append(run.made.pop()[0])


def _end_second(run, first, second):
    run.made.append(run.made.pop()[1])


def _end_repeat(run, first, second):
    value = run.made.pop()
    function = run.made.pop()
    turns = run.made.pop()
    run.made.append(value)
    run.plan("turn", function, min(turns, MOST_TURNS))


def _turn(run, function, turns):
    if turns > 0:
        run.plan("turn", function, turns - 1)
        _apply(run, function, run.made.pop())


def _end_at(run, first, second):
    i = run.made.pop()
    row = run.made.pop()
    if row[0] == "made":
        _, term, env = row
        run.plan("term", term[3], (term[1], i, env))
    elif row[0] == "found":
        run.made.append(row[1].get(i, 0))
    elif row[0] == "going":
        _read_going(run, row[1], i)
    else:
        _read_parameter(run, (i, row[1]))


def _read_parameter(run, place):
    if run.rows is not None:
        digit = told_entry(run.rows[place[1]], place[0])
    elif place in run.known:
        digit = run.known[place]
    else:
        run.stopped = place
        return
    run.reads[place] = True
    run.made.append(digit)


def _read_going(run, going, i):
    if i in going.known:
        run.made.append(going.known[i])
        return
    # All that was begun behind the quantifier's body is given up, quantifiers in it too.
    del run.todo[going.todo_height:]
    del run.made[going.made_height:]
    going.known[i] = 0
    going.asked.append(i)
    _go_through(run, going)


def _end_share(run, term, env):
    _go(run, term, env, run.made.pop())


def _end_going(run, going, _):
    going.note_end(run.made.pop())
    if going.has_more():
        run.plan("ended", going, None)
        _go_through(run, going)
    elif going.term[0] == "contest":
        going.game = Functions()
        run.plan("game", going, function_of(going))
    else:
        run.made.append(result_of_ends(going))


def _begin_game(run, going, number):
    """The worth of a game: its one value, or by the side that makes the first move that is needed."""
    lowest = going.game.lowests[number]
    if lowest is None:
        run.made.append(going.game.shapes[number][1])
        return
    run.plan("move", going, number)
    run.plan("term", going.term[4], (going.term[3], lowest[0], going.outside))


def _begin_move(run, going, number):
    side = run.made.pop()
    size = going.term[2]
    run.plan("moved", side, size)
    for digit in range(size - 1, -1, -1):
        run.plan("game", going, going.game.given_lowest(number, digit))


def _end_move(run, side, size):
    first = len(run.made) - size
    worths = run.made[first:]
    del run.made[first:]
    run.made.append(max(worths) if side == GREAT_SIDE else min(worths))


BEGINNINGS = {
    "var": _begin_var, "digit": _begin_digit, "number": _begin_number, "prim": _begin_prim, "as": _begin_as,
    "count": _begin_count, "if": _begin_if, "fn": _begin_fn, "row": _begin_row, "call": _begin_all,
    "pair": _begin_all, "first": _begin_all, "second": _begin_all, "repeat": _begin_all, "at": _begin_all,
    "some": _begin_going, "every": _begin_going, "least": _begin_going, "greatest": _begin_going,
    "find": _begin_going, "contest": _begin_going, "share": _begin_share,
}
ACTIONS = {
    "term": _work_out, "prim": _end_prim, "as": _end_as, "if": _end_if, "call": _end_call, "pair": _end_pair,
    "first": _end_first, "second": _end_second, "repeat": _end_repeat, "turn": _turn, "at": _end_at,
    "share": _end_share, "ended": _end_going, "game": _begin_game, "move": _begin_move, "moved": _end_move,
}


def run_term(term, env, known, rows, most):
    """The run of a term in an environment, at its end or where it stops.

    Parameters are told by known entries (a dict), or by told rows if these are given.
    """
    run = Run(most, known, rows)
    run.plan("term", term, env)
    while run.todo and run.stopped is None:
        word, first, second = run.todo.pop()
        action = ACTIONS[word]
        action(run, first, second)
    return run


def run_body(program, known, rows, most):
    """The run of the body of a program."""
    names, body = parameters_of(program)
    env = None
    for k, named in enumerate(names):
        env = (named[0], ("parameter", k), env)
    return run_term(body, env, known, rows, most)
