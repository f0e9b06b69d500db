"""Functions of rows by all ways to fill places, for tests to compare with: as plainly as can be."""

import itertools
from fractions import Fraction


def end(value):
    return ("end", value)


def ask(i, k, *branches):
    return ("ask", (i, k), tuple(end(branch) if isinstance(branch, int) else branch for branch in branches))


def pair_of(fraction):
    """A Fraction as the pair that the package tells."""
    fraction = Fraction(fraction)
    return (fraction.numerator, fraction.denominator)


def places_in(*trees):
    """All places that stand in trees, ascending."""
    found = set()
    for tree in trees:
        if tree[0] == "ask":
            found.add(tree[1])
            found.update(places_in(*tree[2]))
    return sorted(found)


def fillings(sizes, places):
    """All ways to fill places, as dicts, in the order of the rows that they tell (places ascending)."""
    for digits in itertools.product(*[range(sizes[k]) for _, k in places]):
        yield dict(zip(places, digits))


def value_at(tree, digits):
    """The value with these digits, 0 elsewhere."""
    while tree[0] == "ask":
        tree = tree[2][digits.get(tree[1], 0)]
    return tree[1]


def told_entries(digits):
    """The known entries, other than 0, of a dict."""
    return tuple(sorted((place, digit) for place, digit in digits.items() if digit))


def table(sizes, tree, places):
    """The values of a tree on all fillings of places."""
    return [value_at(tree, digits) for digits in fillings(sizes, places)]


def least_by_filling(sizes, tree, places=None):
    """The least tree of a function by its table: ask each place in turn, and leave out what is not needed."""
    places = places_in(tree) if places is None else places

    def grow(at, digits):
        if at == len(places):
            return end(value_at(tree, digits))
        branches = tuple(grow(at + 1, {**digits, places[at]: digit}) for digit in range(sizes[places[at][1]]))
        return branches[0] if len(set(branches)) == 1 else ("ask", places[at], branches)
    return grow(0, {})


def tree_of(sizes, places, tell):
    """The least tree of a function of digits (a dict) over ascending places."""
    def grow(at, digits):
        if at == len(places):
            return end(tell(digits))
        branches = tuple(grow(at + 1, {**digits, places[at]: digit}) for digit in range(sizes[places[at][1]]))
        return branches[0] if len(set(branches)) == 1 else ("ask", places[at], branches)
    return grow(0, {})


def other_order(rng, sizes, tree, places=None):
    """A tree for the same function that asks its places in another order, some without need."""
    places = places_in(tree) if places is None else places

    def grow(left, digits):
        free = [place for place in places if place not in digits]
        held = {value_at(tree, {**digits, **more}) for more in fillings(sizes, free)}
        if len(held) == 1 and rng.random() < 0.8 or not left:
            return end(held.pop())
        place = rng.choice(left)
        rest = [other for other in left if other != place]
        return ("ask", place, tuple(grow(rest, {**digits, place: digit}) for digit in range(sizes[place[1]])))
    return grow(list(places), {})


def needed_by_filling(sizes, tree):
    """The needed places."""
    places = places_in(tree)
    found = []
    for place in places:
        for digits in fillings(sizes, places):
            if len({value_at(tree, {**digits, place: digit}) for digit in range(sizes[place[1]])}) > 1:
                found.append(place)
                break
    return tuple(found)


def nodes_of(tree):
    return 1 if tree[0] == "end" else 1 + sum(nodes_of(branch) for branch in tree[2])


def great_least(many, more):
    """A least tree for the menu (2, 3) with so many asks of row 0 and one of row 1 (more: 0 or 1), no two ends alike.

    It has 1 + 2 many + 3 more nodes; the fillings of its places are at most 3 * 2 ** 10.
    """
    count = itertools.count()

    def grow(many, i):
        if many == 0:
            return end(next(count))
        # So that all asks find a place, the lower branches are filled up first.
        left = min(many - 1, 2 ** (9 - i) - 1)
        return ("ask", (i + 1, 0), (grow(left, i + 1), grow(many - 1 - left, i + 1)))
    if more:
        first, second = min(many, 1023), max(0, many - 1023)
        return ("ask", (0, 1), (grow(first, 0), grow(second, 0), end(next(count))))
    return grow(many, 0)
