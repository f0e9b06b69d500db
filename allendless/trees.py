"""Trees of questions about rows.

Trees that were returned may be deep; so they are gone through with a list of what is still to do.
"""

from allendless.data import data_text
from allendless.errors import TooGreat
from allendless.told import is_place, told_entry

MOST_NODES = 2000


def grown(first, step, most):
    """A tree that is made node by node.

    step(state, known) tells what stands there, the answers above being known: ("end", V), or ("ask",
    PLACE, STATES), a state for each branch. TooGreat("tree") if there come more than `most` nodes
    (None: there is no bound).
    """
    known = {}
    asks = []
    state = first
    many = 0
    while True:
        many += 1
        if most is not None and many > most:
            raise TooGreat("tree")
        made = step(state, known)
        if made[0] == "ask":
            asks.append((made[1], made[2], []))
        else:
            made = _closed(made, asks, known)
            if not asks:
                return made
        place, states, branches = asks[-1]
        known[place] = len(branches)
        state = states[len(branches)]


def _closed(made, asks, known):
    """Hang what was made into the last open ask, and so on as long as this ends an ask."""
    while asks:
        place, states, branches = asks[-1]
        branches.append(made)
        if len(branches) < len(states):
            break
        asks.pop()
        del known[place]
        made = ("ask", place, tuple(branches))
    return made


def _passed(tree, known):
    """What stands in the place of a tree whose first asks are known already."""
    while tree[0] == "ask" and tree[1] in known:
        tree = tree[2][known[tree[1]]]
    return tree


def is_data(value):
    """Whether a value is plain data: an integer from 0 on, or a pair of such."""
    todo = [value]
    while todo:
        part = todo.pop()
        if isinstance(part, tuple):
            if len(part) != 2:
                return False
            todo.extend(part)
        elif not isinstance(part, int) or isinstance(part, bool) or part < 0:
            return False
    return True


def _is_node(menu, value):
    """Whether an end or an ask begins here, whatever the branches are."""
    if not isinstance(value, tuple) or not value or not isinstance(value[0], str):
        return False
    if value[0] == "end":
        return len(value) == 2 and is_data(value[1])
    if value[0] != "ask" or len(value) != 3 or not is_place(menu, value[1]):
        return False
    return isinstance(value[2], tuple) and len(value[2]) == menu[value[1][1]]


def is_tree(menu, value):
    """Whether a value is a right tree for a menu."""
    above = {}
    many = 0
    todo = [("node", value)]
    while todo:
        word, part = todo.pop()
        if word == "leave":
            del above[part]
            continue
        many += 1
        if many > MOST_NODES or not _is_node(menu, part):
            return False
        if part[0] == "ask":
            if part[1] in above:
                return False
            above[part[1]] = True
            todo.append(("leave", part[1]))
            todo.extend([("node", branch) for branch in part[2]])
    return True


def node_count(tree):
    """The number of asks and ends of a tree."""
    many = 0
    todo = [tree]
    while todo:
        part = todo.pop()
        many += 1
        if part[0] == "ask":
            todo.extend(part[2])
    return many


def ends_of(tree):
    """The ends of a tree in the order of the branches: pairs (known entries, V)."""
    found = []
    todo = [(tree, ())]
    while todo:
        part, known = todo.pop()
        if part[0] == "end":
            found.append((tuple(sorted(known)), part[1]))
            continue
        for digit in range(len(part[2]) - 1, -1, -1):
            todo.append((part[2][digit], known + ((part[1], digit),)))
    return tuple(found)


def way_on(tree, rows):
    """The answers along the way on which told rows lead, from the top on."""
    way, _ = _led_to(tree, rows)
    return tuple(way)


def value_on(tree, rows):
    """The value of a tree on told rows."""
    _, value = _led_to(tree, rows)
    return value


def _led_to(tree, rows):
    """The answers on the way of told rows, and the value at its end."""
    way = []
    while tree[0] == "ask":
        i, k = tree[1]
        digit = told_entry(rows[k], i)
        way.append((tree[1], digit))
        tree = tree[2][digit]
    return way, tree[1]


def fixed_at(tree, place, d):
    """The tree given a place and a digit."""
    def step(state, known):
        return _passed(state, {place: d})
    return grown(tree, step, None)


def paired(menu, tree, other):
    """The tree of the pairs of the values of two trees."""
    def step(state, known):
        part, values = state
        if part[0] == "end" and not values:
            values = (part[1],)
            part = other
        if values:
            part = _passed(part, known)
        if part[0] == "end":
            return ("end", values + (part[1],))
        return ("ask", part[1], [(branch, values) for branch in part[2]])
    return grown((tree, ()), step, MOST_NODES)


def _by_value(table):
    """A table as a dict, the values being told by their texts."""
    return {data_text(value): told for value, told in table}


def led(tree, table):
    """The tree with other values, by a table of pairs (V, W)."""
    values = _by_value(table)

    def step(state, known):
        if state[0] == "end":
            return ("end", values[data_text(state[1])])
        return state
    return grown(tree, step, None)


def grafted(menu, tree, table):
    """The tree with a tree for each of its ends, by a table of pairs (V, TREE)."""
    trees = _by_value(table)

    def step(state, known):
        part, is_graft = state
        if part[0] == "end" and not is_graft:
            part = trees[data_text(part[1])]
            is_graft = True
        if is_graft:
            part = _passed(part, known)
        if part[0] == "end":
            return part
        return ("ask", part[1], [(branch, is_graft) for branch in part[2]])
    return grown((tree, False), step, MOST_NODES)


def turned(tree, numbers):
    """The tree with other numbers for its rows."""
    def step(state, known):
        if state[0] == "end":
            return state
        i, k = state[1]
        return ("ask", (i, numbers[k]), state[2])
    return grown(tree, step, None)


def put_in(tree, sources):
    """The tree whose entries are told by trees for other rows."""
    trees = {place: source for place, source in sources}

    def step(state, known):
        part, source = state
        while part[0] == "ask":
            source = _passed(trees[part[1]] if source is None else source, known)
            if source[0] == "ask":
                return ("ask", source[1], [(part, branch) for branch in source[2]])
            part = part[2][source[1]]
            source = None
        return part
    return grown((tree, None), step, MOST_NODES)
