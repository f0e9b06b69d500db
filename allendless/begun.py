"""Number programs by the first entries of what they give."""

from allendless.judging import kind_of
from allendless.kinds import put_in
from allendless.trees import grown
from allendless.ways import ways

DIGITS = 3


def sum_of_digits(entries):
    """The sum of a beginning: entry by entry it is doubled, and goes on by -1, 0 or 1."""
    total = 0
    for digit in entries:
        total = 2 * total + digit - 1
    return total


def many_parameters(program):
    """How many rows a number program is passed."""
    kind = kind_of(program, ())
    many = 0
    while kind[0] == "to":
        many += 1
        kind = kind[2]
    return many


def _entries_term(row, n):
    """The first n entries of a row as pairs to the right."""
    if n == 0:
        return ("digit", DIGITS, 0)
    made = ("at", row, ("number", n - 1))
    for j in range(n - 2, -1, -1):
        made = ("pair", ("at", row, ("number", j)), made)
    return made


def beginning_program(program, n):
    """The program of the first n entries of what a number program gives."""
    names = [f"r{k}" for k in range(many_parameters(program))]
    given = ("var", "program")
    for name in names:
        given = ("call", given, ("var", name))
    made = ("call", ("fn", "o", ("rows", DIGITS), _entries_term(("var", "o"), n)), given)
    for name in names[::-1]:
        made = ("fn", name, ("rows", DIGITS), made)
    return put_in(made, "program", program)


def _entries_of(value, n):
    """The n digits that are told as pairs to the right."""
    entries = []
    for _ in range(n - 1):
        digit, value = value
        entries.append(digit)
    if n > 0:
        entries.append(value)
    return tuple(entries)


def entries_tree(program, n):
    """The tree of the first n entries of what a number program gives, tuples of digits."""
    def step(state, known):
        if state[0] == "ask":
            return state
        return ("end", _entries_of(state[1], n))
    return grown(ways(beginning_program(program, n)), step, None)


def cut_tree(tree, j):
    """A tree of entries with the first j of them alone."""
    def step(state, known):
        return state if state[0] == "ask" else ("end", state[1][:j])
    return grown(tree, step, None)


def sums_tree(tree):
    """A tree of entries with their sums."""
    def step(state, known):
        return state if state[0] == "ask" else ("end", sum_of_digits(state[1]))
    return grown(tree, step, None)
