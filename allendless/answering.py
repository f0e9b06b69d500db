"""Endless systems of conditions, and what answers a row by a row."""

from allendless.data import TOP
from allendless.errors import TooGreat, WrongKind
from allendless.joint import all_hold
from allendless.judging import kind_of, parameters_of, result_of
from allendless.kinds import put_in
from allendless.leasttrees import least_of
from allendless.needed import Functions
from allendless.solving import has_solution, solution_entries, without
from allendless.trees import ends_of, grown
from allendless.ways import ways

TRUTH = ("few", 2)

# Far above what the ways take for which answers are promised: products of at most 1,000.
MOST_FILLINGS = 20000
MOST_NODES = 10000


def _is_system(term):
    """Whether a closed right term is an endless system."""
    if term[0] != "fn" or term[2] != ("num",) or term[3][0] != "fn" or term[3][2][0] != "rows":
        return False
    return kind_of(term, ())[2][2] == TRUTH


def _check_system(term):
    """Refuse a closed right term that is no endless system."""
    if not _is_system(term):
        raise WrongKind()


def _condition_ways(system, j):
    """The ways of the condition with a number."""
    return ways(put_in(system[3], system[1], ("number", j)))


def _kept_meeting(trees):
    """The function that is 1 where some conditions are all 1."""
    functions = Functions()
    try:
        return functions, functions.number_of(all_hold(trees, MOST_NODES))
    except TooGreat:
        raise TooGreat("program")


def _least_entries(system, n):
    """The entries that are asked along the way of the least common solution of the first n conditions, or None."""
    _check_system(system)
    functions, number = _kept_meeting([_condition_ways(system, j) for j in range(n)])
    return _least_way(functions, number)


def _least_way(functions, number):
    """The entries that are asked along the way of the least solution of a kept condition, or None."""
    def is_wanted(part):
        return has_solution(functions, part)
    if not is_wanted(number):
        return None
    return solution_entries(functions, number, is_wanted, False)


def least_meeting(system, n):
    """The entries other than 0 of the least common solution of the first n conditions, or None."""
    entries = _least_entries(system, n)
    return None if entries is None else without(entries, (0,))


def first_entries(system, n, count):
    """The first entries, so many, of the least common solution of the first n conditions, or None."""
    entries = _least_entries(system, n)
    return None if entries is None else tuple([entries.get((i, 0), 0) for i in range(count)])


def clash_at(system, most):
    """The least n, at most `most`, for which the first n conditions have no common solution, or None."""
    _check_system(system)
    trees = []
    for j in range(most):
        trees.append(_condition_ways(system, j))
        functions, number = _kept_meeting(trees)
        if not has_solution(functions, number):
            return j + 1
    return None


def _both_rows(program):
    """The names and sizes of the two rows of a program with a result of few 2, and the term behind them."""
    found, body = parameters_of(program)
    if len(found) != 2 or result_of(program) != TRUTH:
        raise WrongKind()
    return found, body


def answerer(program):
    """A term that gives for each row a the least row b with which a program gives 1, all noughts if there is none."""
    (first, second), body = _both_rows(program)
    return ("fn", first[0], ("rows", first[1]), ("find", second[0], second[1], body))


def _check_fillings(sizes, tree):
    """Refuse the ways of a program that ask too many places."""
    places = {}
    for known, _ in ends_of(tree):
        for place, _ in known:
            places[place] = True
    many = 1
    for place in places:
        many = min(many * sizes[place[1]], MOST_FILLINGS + 1)
    if many > MOST_FILLINGS:
        raise TooGreat("program")


def _asking_a_first(program):
    """The function of a program with all places of its row a ahead of those of b, whose indices are moved behind."""
    found, _ = _both_rows(program)
    tree = ways(program)
    _check_fillings([size for _, size in found], tree)

    def step(state, known):
        if state[0] == "end":
            return state
        return ("ask", _moved(state[1]), state[2])
    functions = Functions()
    return functions, functions.number_of(grown(tree, step, None))


def _moved(place):
    """A place of row a as it is, one of row b behind all of these."""
    i, k = place
    return (i, 0) if k == 0 else (i + TOP + 1, 1)


def _is_of_a(functions, part):
    """Whether a part asks row a first."""
    lowest = functions.lowests[part]
    return lowest is not None and lowest[1] == 0


def answers_always(program):
    """Whether there is for every row a a row b with which a program gives 1."""
    functions, number = _asking_a_first(program)
    todo = [number]
    while todo:
        part = todo.pop()
        if _is_of_a(functions, part):
            todo.extend(functions.top_of(part)[2])
        elif not has_solution(functions, part):
            return False
    return True


def answer_tree(program, i):
    """The least tree of entry i of the answerer's row."""
    functions, number = _asking_a_first(program)
    made = Functions()
    numbers = {}
    todo = [number]
    while todo:
        part = todo.pop()
        if not _is_of_a(functions, part):
            entries = _least_way(functions, part)
            digit = 0 if entries is None else entries.get((i + TOP + 1, 1), 0)
            numbers[part] = made.number_of(("end", digit))
            continue
        top = functions.top_of(part)
        missing = [branch for branch in top[2] if branch not in numbers]
        if missing:
            todo.append(part)
            todo.extend(missing)
        else:
            numbers[part] = made.ask_for(top[1], tuple([numbers[branch] for branch in top[2]]))
    return least_of(made, numbers[number], None)
