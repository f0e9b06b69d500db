"""Turners by states: they read a row entry by entry, and tell an entry of the result each time."""

from allendless.data import is_between
from allendless.errors import TooGreat, WrongKind
from allendless.kinds import plainly_named

MOST_STATES = 200
MOST_STATES_OF_TERM = 12


def _is_state(m, k, many, value):
    """Whether a value is a state: for each digit a digit below k and the number of one of so many states."""
    if not isinstance(value, tuple) or len(value) != m:
        return False
    if not all([isinstance(pair, tuple) and len(pair) == 2 for pair in value]):
        return False
    return all([is_between(digit, 0, k - 1) and is_between(state, 0, many - 1) for digit, state in value])


def is_state_turner(value):
    """Whether a value is a state turner."""
    if not isinstance(value, tuple) or len(value) != 3:
        return False
    m, k, states = value
    if not is_between(m, 2, 9) or not is_between(k, 2, 9) or not isinstance(states, tuple):
        return False
    return 0 < len(states) <= MOST_STATES and all([_is_state(m, k, len(states), state) for state in states])


def state_entries(turner, digits):
    """What a state turner tells for some digits, one by one."""
    _, _, states = turner
    told = []
    state = 0
    for digit in digits:
        entry, state = states[state][digit]
        told.append(entry)
    return tuple(told)


def _classes_of(states):
    """The number of the class of each state: alike states have one class."""
    classes = [0] * len(states)
    many = 1
    while True:
        numbers = {}
        finer = []
        for at, state in enumerate(states):
            key = (classes[at], tuple([(entry, classes[other]) for entry, other in state]))
            finer.append(numbers.setdefault(key, len(numbers)))
        if len(numbers) == many:
            return classes
        many = len(numbers)
        classes = finer


def least_states(turner):
    """The state turner with the same results that has the fewest states, numbered as they are met."""
    m, k, states = turner
    classes = _classes_of(states)
    numbers = {classes[0]: 0}
    met = [0]
    made = []
    # A class is told by the first state of it that is met.
    while len(made) < len(met):
        pairs = []
        state = states[met[len(made)]]
        for entry, other in state:
            if classes[other] not in numbers:
                numbers[classes[other]] = len(met)
                met.append(other)
            pairs.append((entry, numbers[classes[other]]))
        made.append(tuple(pairs))
    return (m, k, tuple(made))


def _check_alike(turner, other):
    """Refuse two state turners over unlike numbers of digits."""
    if turner[:2] != other[:2]:
        raise WrongKind()


def same_states(turner, other):
    """Whether two state turners have the same results on all rows."""
    _check_alike(turner, other)
    return least_states(turner) == least_states(other)


def parting_word(turner, other):
    """The shortest beginning, of several the least, behind which unlike digits have been told, or None."""
    _check_alike(turner, other)
    m, _, states = least_states(turner)
    _, _, others = least_states(other)
    came = {(0, 0): None}
    level = [(0, 0)]
    # Words come from the shortest on, and in their order, so each pair of states is met by its first word.
    while level:
        further = []
        for pair in level:
            for digit in range(m):
                entry, one = states[pair[0]][digit]
                worth, two = others[pair[1]][digit]
                if entry != worth:
                    return _word_to(came, pair) + (digit,)
                if (one, two) not in came:
                    came[(one, two)] = (pair, digit)
                    further.append((one, two))
        level = further
    return None


def _word_to(came, pair):
    """The digits that led to a pair of states, each pair telling the one that it came from, and the digit."""
    word = []
    while came[pair] is not None:
        pair, digit = came[pair]
        word.append(digit)
    return tuple(word[::-1])


def _chosen_by(number, options, first):
    """The term that is chosen from options by the value of a term: the first one for a number, and so on."""
    if options.count(options[0]) == len(options):
        return options[0]
    half = len(options) // 2
    is_below = ("prim", "below", (number, ("number", first + half)))
    return ("if", is_below, _chosen_by(number, options[:half], first), _chosen_by(number, options[half:], first + half))


def _by_digit(index, options):
    """The term that is chosen from options by the entry of the row at an index; it is read only if there is need."""
    made = _chosen_by(("var", "entry"), options, 0)
    if options.count(options[0]) == len(options):
        return made
    return ("call", ("fn", "entry", ("num",), made), ("count", ("at", ("var", "row"), index)))


def state_term(turner):
    """A turner whose results have the same first 60 entries.

    It goes through the entries ahead by "repeat", which turns at most so many times.
    """
    if len(turner[2]) > MOST_STATES_OF_TERM:
        raise TooGreat("states")
    m, k, states = least_states(turner)
    count = ("second", ("var", "held"))
    nexts = [_by_digit(count, [("number", other) for _, other in pairs]) for pairs in states]
    turned = ("pair", _chosen_by(("first", ("var", "held")), nexts, 0), ("prim", "add", (count, ("number", 1))))
    turn = ("fn", "held", ("both", ("num",), ("num",)), turned)
    state = ("first", ("repeat", ("var", "index"), turn, ("pair", ("number", 0), ("number", 0))))
    told = [_by_digit(("var", "index"), [("digit", k, entry) for entry, _ in pairs]) for pairs in states]
    made = ("call", ("fn", "state", ("num",), _chosen_by(("var", "state"), told, 0)), state)
    return plainly_named(("fn", "row", ("rows", m), ("row", "index", k, made)))
