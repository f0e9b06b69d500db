"""Machines that read rows as they come, entry by entry, and tell a value as soon as it is settled."""

from allendless.data import is_between
from allendless.errors import TooGreat
from allendless.leasttrees import least_of
from allendless.needed import Functions
from allendless.told import told_entry
from allendless.trees import MOST_NODES, is_data

MOST_LEVELS = 401
MOST_STATES = 2000
INDEX_BOUND = 100
MOST_ROWS = 4


def _is_menu(value):
    if not isinstance(value, tuple) or len(value) > MOST_ROWS:
        return False
    return all([is_between(size, 2, 9) for size in value])


def _is_state(value, size, many):
    """Whether a value is a state whose entry has so many digits, if the next level has so many states."""
    if not isinstance(value, tuple) or len(value) != 2 or not isinstance(value[0], str):
        return False
    if value[0] == "told":
        return is_data(value[1])
    if value[0] != "go" or size == 0 or not isinstance(value[1], tuple) or len(value[1]) != size:
        return False
    return all([is_between(number, 0, many - 1) for number in value[1]])


def size_at(menu, t):
    """How many digits the entry has that comes at a moment; 0 if there are no rows."""
    return menu[t % len(menu)] if menu else 0


def is_machine(value):
    """Whether a value is a machine."""
    if not isinstance(value, tuple) or len(value) != 2 or not _is_menu(value[0]):
        return False
    menu, levels = value
    if not isinstance(levels, tuple) or not 0 < len(levels) <= MOST_LEVELS:
        return False
    if not all([isinstance(level, tuple) and len(level) > 0 for level in levels]):
        return False
    counts = [len(level) for level in levels]
    if counts[0] != 1 or sum(counts) > MOST_STATES or (not menu and len(levels) > 1):
        return False
    # Behind the last level there are no states, so nothing can go on from it.
    counts.append(0)
    for t, level in enumerate(levels):
        if not all([_is_state(state, size_at(menu, t), counts[t + 1]) for state in level]):
            return False
    return True


def check_many_states(many):
    """Refuse machines with too many states."""
    if many > MOST_STATES:
        raise TooGreat("states")


def leveled(menu, first, state_of):
    """The machine of states that are come to from a first one, those of a level numbered as they are come to.

    What tells a state is a key of a dict. state_of(key, t) is ("told", V), or ("go", keys of the next level).
    TooGreat("states") if there are too many states.
    """
    levels = []
    keys = [first]
    many = 0
    while keys:
        many += len(keys)
        check_many_states(many)
        numbers = {}
        level = []
        for key in keys:
            state = state_of(key, len(levels))
            if state[0] == "go":
                state = ("go", tuple([numbers.setdefault(other, len(numbers)) for other in state[1]]))
            level.append(state)
        levels.append(tuple(level))
        keys = list(numbers)
    return (menu, tuple(levels))


def machine_of(menu, tree):
    """The machine of a right tree."""
    functions = Functions()
    top = functions.number_of(tree)
    least_of(functions, top, MOST_NODES)
    if any([i >= INDEX_BOUND for i, _ in functions.places_of(top)]):
        raise TooGreat("levels")

    def state_of(number, t):
        if functions.lowests[number] is None:
            return ("told", functions.ends[number][1])
        place = (t // len(menu), t % len(menu))
        return ("go", [functions.left_at(number, place, digit) for digit in range(size_at(menu, t))])
    return leveled(menu, top, state_of)


def states_at(machine):
    """How many states each level has."""
    _, levels = machine
    return tuple([len(level) for level in levels])


def run_on(machine, rows):
    """What a machine tells on told rows, and at which moment."""
    menu, levels = machine
    t = 0
    state = levels[0][0]
    while state[0] == "go":
        digit = told_entry(rows[t % len(menu)], t // len(menu))
        t += 1
        state = levels[t][state[1][digit]]
    return (state[1], t)


def _result_at(machine, t, n):
    """What a reader has come to: a state that goes on, or one that tells."""
    state = machine[1][t][n]
    return ("on", (t, n)) if state[0] == "go" else ("told", state[1], t)


def first_reader(machine):
    """What there is ahead of the first entry."""
    return _result_at(machine, 0, 0)


def read(machine, reader, digit):
    """What reading one digit gives."""
    t, n = reader
    return _result_at(machine, t + 1, machine[1][t][n][1][digit])


def read_all(machine, reader, digits):
    """What reading digits in turn gives, up to the one at which it tells: the last result, how many were read."""
    result = ("on", reader)
    many = 0
    for digit in digits:
        if result[0] == "told":
            break
        result = read(machine, result[1], digit)
        many += 1
    return (result, many)
