"""Least trees: places ascend on each way, and no ask is without need. Each function has just one."""

from allendless.data import data_text
from allendless.needed import Functions
from allendless.told import told_entry
from allendless.trees import MOST_NODES, grown


def least_of(functions, number, most):
    """The least tree of a function of trees; TooGreat("tree") if it has more than `most` nodes (None: no bound)."""
    def step(state, known):
        # What is left behind an answer is made when it is come to: a tree that is too great is given up early.
        above, digit = state
        here = above if digit is None else functions.given_lowest(above, digit)
        if functions.lowests[here] is None:
            return functions.ends[here]
        return ("ask", functions.lowests[here], [(here, at) for at in range(functions.size_at_lowest(here))])
    return grown((number, None), step, most)


def least(menu, tree):
    """The least tree of the function that a right tree tells."""
    functions = Functions()
    return least_of(functions, functions.number_of(tree), MOST_NODES)


def is_least(tree):
    """Whether places ascend on each way of a tree, and no ask has branches that are all equal."""
    numbers = {}
    made = []
    todo = [(tree, False)]
    while todo:
        part, is_ended = todo.pop()
        if part[0] == "end":
            shape = ("end", data_text(part[1]))
        elif is_ended:
            first = len(made) - len(part[2])
            branches = tuple(made[first:])
            if branches.count(branches[0]) == len(branches):
                return False
            del made[first:]
            shape = ("ask", part[1], branches)
        else:
            if any([branch[0] == "ask" and branch[1] <= part[1] for branch in part[2]]):
                return False
            todo.append((part, True))
            todo.extend([(branch, False) for branch in part[2][::-1]])
            continue
        made.append(numbers.setdefault(shape, len(numbers)))
    return True


def first_needed(tree):
    """The least place that the function of a right tree needs, or None."""
    functions = Functions()
    return functions.lowests[functions.number_of(tree)]


def _indices_of(tree):
    """The indices of all places that stand in a tree, ascending."""
    indices = {}
    todo = [tree]
    while todo:
        part = todo.pop()
        if part[0] == "ask":
            indices[part[1][0]] = True
            todo.extend(part[2])
    return sorted(indices)


def _is_settled(tree, rows, n):
    """Whether a tree has one value on all rows with the same entries below n as told rows."""
    settled = None
    todo = [tree]
    while todo:
        part = todo.pop()
        if part[0] == "end":
            text = data_text(part[1])
            if settled is not None and text != settled:
                return False
            settled = text
        elif part[1][0] < n:
            i, k = part[1]
            todo.append(part[2][told_entry(rows[k], i)])
        else:
            todo.extend(part[2])
    return True


def settled_at(menu, tree, rows):
    """The least n for which the entries below n of told rows settle the value of a tree."""
    # What is settled stays so for a greater n, so the least n is found by halving; it is 0 or one behind an index.
    lengths = [0] + [i + 1 for i in _indices_of(tree)]
    low = 0
    high = len(lengths) - 1
    while low < high:
        middle = (low + high) // 2
        if _is_settled(tree, rows, lengths[middle]):
            high = middle
        else:
            low = middle + 1
    return lengths[low]
