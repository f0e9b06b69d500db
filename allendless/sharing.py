"""Shared forms: the unlike parts of a least tree, each written once."""

from allendless.leasttrees import least_of
from allendless.needed import Functions
from allendless.trees import MOST_NODES


def shared(menu, tree):
    """The shared form of a right tree."""
    functions = Functions()
    number = functions.number_of(tree)
    least_of(functions, number, MOST_NODES)
    nodes = []
    numbers = {}
    for part in functions.parts_of(number):
        numbers[part] = len(nodes)
        top = functions.top_of(part)
        if top[0] == "end":
            nodes.append(top)
        else:
            nodes.append(("ask", top[1], tuple([numbers[branch] for branch in top[2]])))
    return tuple(nodes)


def unshared(nodes):
    """The tree of the last node of a shared form."""
    trees = []
    for node in nodes:
        if node[0] == "end":
            trees.append(node)
        else:
            trees.append(("ask", node[1], tuple([trees[number] for number in node[2]])))
    return trees[-1]
