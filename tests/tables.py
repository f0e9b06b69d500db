"""Machines by tables, for tests to compare with: what is left is told by its values for all that may come."""

import itertools

from tests.filling import places_in, value_at


def place_at(menu, t):
    return (t // len(menu), t % len(menu))


def moments(menu, *trees):
    """One more than the last moment at which an entry comes that some trees ask."""
    return max([0] + [i * len(menu) + k + 1 for i, k in places_in(*trees)])


def comings(menu, first, last):
    """All that may come from a moment to another one."""
    return itertools.product(*[range(menu[t % len(menu)]) for t in range(first, last)])


def tell_of(menu, tree):
    """The value of a tree by the digits that have come."""
    def tell(digits):
        return value_at(tree, {place_at(menu, t): digit for t, digit in enumerate(digits)})
    return tell


def machine_by_tables(menu, last, tell):
    """The machine by the words of [108], of tell(digits) of the entries that come ahead of a moment."""
    table = {digits: tell(digits) for digits in comings(menu, 0, last)}
    lefts = {digits: value for digits, value in table.items()}
    for t in range(last - 1, -1, -1):
        for digits in comings(menu, 0, t):
            lefts[digits] = tuple(lefts[digits + (digit,)] for digit in range(menu[t % len(menu)]))
    constants = {}
    for digits in sorted(lefts, key=len, reverse=True):
        if len(digits) == last:
            constants[digits] = (lefts[digits],)
        else:
            below = {constants[digits + (digit,)] for digit in range(menu[len(digits) % len(menu)])}
            constants[digits] = below.pop() if len(below) == 1 else None
    levels = []
    met = [()]
    while met:
        numbers, further, level = {}, [], []
        for digits in met:
            if constants[digits] is not None:
                level.append(("told", constants[digits][0]))
                continue
            branches = []
            for digit in range(menu[len(levels) % len(menu)]):
                key = repr(lefts[digits + (digit,)])
                if key not in numbers:
                    numbers[key] = len(further)
                    further.append(digits + (digit,))
                branches.append(numbers[key])
            level.append(("go", tuple(branches)))
        levels.append(tuple(level))
        met = further
    return (menu, tuple(levels))


def first_told(menu, last, tell, digits):
    """What is told for digits that come, at the first moment at which it is settled."""
    for t in range(last + 1):
        held = {repr(tell(digits[:t] + more)): tell(digits[:t] + more) for more in comings(menu, t, last)}
        if len(held) == 1:
            return (held.popitem()[1], t)
    raise AssertionError("never settled")


def rows_of(menu, digits):
    """The told rows whose entries come so, with 0 behind."""
    return tuple((digits[k::len(menu)], (0,)) for k in range(len(menu)))


def parities(many, first):
    """The tree of whether there is an odd number of 1s among so many entries of row 0, the first one at an index."""
    def grow(left, odd):
        if left == 0:
            return ("end", odd)
        return ("ask", (first + many - left, 0), (grow(left - 1, odd), grow(left - 1, 1 - odd)))
    return grow(many, 0)


def tree_with(nodes, first):
    """A least tree over row 0 of (2,) with so many nodes, an odd number, from an index on."""
    if nodes == 1:
        return ("end", 0)
    many = (nodes - 1).bit_length() - 2 if nodes > 3 else 0
    while 2 ** (many + 1) - 1 > nodes - 2:
        many -= 1
    left = parities(many, first + 1)
    right = tree_with(nodes - 1 - (2 ** (many + 1) - 1), first + 1)
    if left == right:
        right = ("end", 1) if right == ("end", 0) else parities(many, first + 2)
    return ("ask", (first, 0), (left, right))


def leafy(indices, values=None):
    """A tree that asks entries 0 to a - 1 of a row of (2,), 2 ** a being the number of indices, then one entry each.

    All ends are unlike, unless values tell them: pairs, one for each index.
    """
    values = values or [(2 * at, 2 * at + 1) for at in range(len(indices))]
    parts = [("ask", (i, 0), (("end", one), ("end", two))) for i, (one, two) in zip(indices, values)]
    depth = len(indices).bit_length() - 1
    for i in range(depth - 1, -1, -1):
        parts = [("ask", (i, 0), (parts[at], parts[at + 1])) for at in range(0, len(parts), 2)]
    return parts[0]
