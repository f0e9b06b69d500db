"""Several trees for one menu gone through together: each end of the one with all ends of the others that go along."""

from allendless.data import data_text, power
from allendless.trees import grown


def coded(trees):
    """Trees with integers in the place of values, unlike ones for unlike values; and the tuple of all the values."""
    codes = {}
    told = []

    def step(state, known):
        if state[0] == "ask":
            return state
        text = data_text(state[1])
        if text not in codes:
            codes[text] = len(told)
            told.append(state[1])
        return ("end", codes[text])
    return tuple([grown(tree, step, None) for tree in trees]), tuple(told)


def joint_tree(trees, tell, entries):
    """The tree, of any size, of what tell(VALUES) makes of the values of some trees, a tuple of them.

    It is the function that is left of them if entries, a dict, are known.
    """
    def step(state, known):
        part, told = _gone_on(trees, state[0], state[1], (known, entries))
        if part is None:
            return ("end", tell(told))
        return ("ask", part[1], [(branch, told) for branch in part[2]])
    return grown((None, ()), step, None)


def _gone_on(trees, part, told, known):
    """The next ask that no dict of known tells, with the values that were told ahead; None behind the last tree."""
    while True:
        if part is None:
            if len(told) == len(trees):
                return None, told
            part = trees[len(told)]
        elif part[0] == "end":
            told = told + (part[1],)
            part = None
        else:
            holding = [digits for digits in known if part[1] in digits]
            if not holding:
                return part, told
            part = part[2][holding[0][part[1]]]


def all_hold(trees, most):
    """The tree that is 1 where some trees of 0 and 1 are all 1, otherwise 0.

    TooGreat("tree") if it has more than `most` nodes (None: there is no bound).
    """
    def step(state, known):
        part, number = state
        while number < len(trees):
            if part is None:
                part = trees[number]
            elif part[0] == "end":
                if part[1] == 0:
                    return part
                part = None
                number += 1
            elif part[1] in known:
                part = part[2][known[part[1]]]
            else:
                return ("ask", part[1], [(branch, number) for branch in part[2]])
        return ("end", 1)
    return grown((None, 0), step, most)


def even_rates(menu):
    """For each row the sum of the rates of its digits, and the rates: all alike."""
    return tuple([(size, (1,) * size) for size in menu])


def _most_asks(tree, many):
    """The greatest number of asks of each of so many rows on a way of a tree."""
    greatest = [0] * many
    todo = [(tree, (0,) * many)]
    while todo:
        part, asks = todo.pop()
        if part[0] == "end":
            greatest = [max(one, other) for one, other in zip(greatest, asks)]
        else:
            k = part[1][1]
            more = asks[:k] + (asks[k] + 1,) + asks[k + 1:]
            todo.extend([(branch, more) for branch in part[2]])
    return greatest


def scale_of(rates, trees):
    """A number of equal shares that every way through some trees takes a whole number of."""
    scale = 1
    for tree in trees:
        for (base, _), many in zip(rates, _most_asks(tree, len(rates))):
            scale = scale * power(base, many)
    return scale


def joint_weights(rates, trees, entries):
    """How many equal shares of all rows have which values, (dict from tuples of values, number of all shares).

    The values are integers or strings; the entries of a dict are known ahead, so the shares are those of the
    rows that go along with them. A digit's share at a place is its rate over the sum of the rates.
    """
    known = {place: entries[place] for place in entries}
    scale = scale_of(rates, trees)
    found = {}
    todo = [(None, 0, None, (), scale)]
    while todo:
        place, digit, part, told, weight = todo.pop()
        if weight < 0:
            del known[place]
            continue
        if place is not None:
            known[place] = digit
        part, told = _gone_on(trees, part, told, (known,))
        if part is None:
            found[told] = found.get(told, 0) + weight
            continue
        base, rated = rates[part[1][1]]
        todo.append((part[1], 0, None, (), -1))
        for at, branch in enumerate(part[2]):
            todo.append((part[1], at, branch, told, weight // base * rated[at]))
    return found, scale
