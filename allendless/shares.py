"""Shares of all rows: spreads, means, variances, what is independent, forces, swings, weights."""

from math import lcm

from allendless.data import flat
from allendless.joint import coded, even_rates, joint_weights, scale_of
from allendless.needed import Functions
from allendless.ratios import ratio, total_of


def _spread(told, weights, whole):
    """The pairs (V, its share), V ascending, of a dict from the codes of values to weights above 0."""
    order = sorted([(flat(told[code]), code) for code in weights if weights[code] > 0])
    return tuple([(told[code], ratio(weights[code], whole)) for _, code in order])


def shares_of(menu, tree):
    """The spread of a tree."""
    trees, told = coded((tree,))
    weights, whole = joint_weights(even_rates(menu), trees, {})
    return _spread(told, {code[0]: weights[code] for code in weights}, whole)


def _sums(menu, tree, entries):
    """The sums of the values of a tree of numbers and of their squares, over equal shares, and how many these are."""
    weights, whole = joint_weights(even_rates(menu), (tree,), entries)
    first = sum([told[0] * weights[told] for told in weights])
    second = sum([told[0] * told[0] * weights[told] for told in weights])
    return first, second, whole


def mean(menu, tree):
    """The mean of a tree of numbers."""
    first, _, whole = _sums(menu, tree, {})
    return ratio(first, whole)


def variance(menu, tree):
    """The mean of the square of what a tree of numbers has above its mean."""
    first, second, whole = _sums(menu, tree, {})
    return ratio(second * whole - first * first, whole * whole)


def shares_given(menu, tree, condition):
    """The spread of a tree over the rows on which a condition is 1; None if there are none."""
    trees, told = coded((tree,))
    joint, _ = joint_weights(even_rates(menu), (condition, *trees), {})
    weights = {both[1]: joint[both] for both in joint if both[0] == 1}
    if not weights:
        return None
    return _spread(told, weights, sum([weights[code] for code in weights]))


def independent(menu, trees):
    """Whether all values of some trees occur together on the product of their shares."""
    for lot in _lots(trees):
        for many in range(2, len(lot) + 1):
            if not _are_independent(menu, [trees[number] for number in lot[:many]]):
                return False
    return True


def _lots(trees):
    """The numbers of trees by lots: trees of unlike lots need no place in common, so they are independent."""
    functions = Functions()
    lots = []
    for number, tree in enumerate(trees):
        places = {place: True for place in functions.places_of(functions.number_of(tree))}
        numbers = []
        apart = []
        for lot in lots:
            if any([place in places for place in lot[1]]):
                numbers.extend(lot[0])
                for place in lot[1]:
                    places[place] = True
            else:
                apart.append(lot)
        lots = apart + [(numbers + [number], list(places))]
    return [numbers for numbers, _ in lots]


def _are_independent(menu, trees):
    rates = even_rates(menu)
    codes, _ = coded(trees)
    single = [joint_weights(rates, (tree,), {}) for tree in codes]
    joint, whole = joint_weights(rates, codes, {})
    many = 1
    for weights, _ in single:
        many = many * len(weights)
    if len(joint) != many:
        return False
    for told in joint:
        share = 1
        scales = 1
        for code, (weights, scale) in zip(told, single):
            share = share * weights[(code,)]
            scales = scales * scale
        if joint[told] * scales != share * whole:
            return False
    return True


def told_so_far(menu, tree, beginnings):
    """The mean of a tree of numbers over the rows that begin with a tuple of digits each."""
    entries = {}
    for k, beginning in enumerate(beginnings):
        for i, digit in enumerate(beginning):
            entries[(i, k)] = digit
    first, _, whole = _sums(menu, tree, entries)
    return ratio(first, whole)


def _asks_of(menu, tree):
    """The asks of a tree, each with its equal shares of all rows, and how many these are."""
    whole = scale_of(even_rates(menu), (tree,))
    found = []
    todo = [(tree, whole)]
    while todo:
        part, weight = todo.pop()
        if part[0] == "ask":
            found.append((part, weight))
            todo.extend([(branch, weight // len(part[2])) for branch in part[2]])
    return found, whole


def asked_shares(menu, tree):
    """For each place that stands in a tree the share of the rows on which it is asked."""
    asks, whole = _asks_of(menu, tree)
    weights = {}
    for part, weight in asks:
        weights[part[1]] = weights.get(part[1], 0) + weight
    return tuple([(place, ratio(weights[place], whole)) for place in sorted(weights)])


def _unrest(menu, part, differ):
    """The mean of differ(V, W), added up over all pairs of unlike branches of an ask."""
    rates = even_rates(menu)
    found = []
    for at, branch in enumerate(part[2]):
        for other in part[2][:at]:
            weights, whole = joint_weights(rates, (branch, other), {})
            found.append(ratio(sum([weights[both] * differ(both[0], both[1]) for both in weights]), whole))
    return total_of(found)


def _unrests(menu, tree, differ, places):
    """What exchanging the digit at each of some places does: the mean of differ(V, W) over rows and pairs of digits.

    Only rows on which a tree asks a place can hang on it; so each ask of it is looked at by itself.
    """
    asks, whole = _asks_of(menu, tree)
    found = {place: [] for place in places}
    for part, weight in asks:
        if part[1] in found:
            p, q = _unrest(menu, part, differ)
            found[part[1]].append(ratio(weight * p, whole * q))
    unrests = {}
    for place in found:
        p, q = total_of(found[place])
        unrests[place] = ratio(p, q * menu[place[1]] * menu[place[1]])
    return unrests


def _square_apart(value, other):
    return (value - other) * (value - other)


def _twice_unlike(value, other):
    return 0 if value == other else 2


def force(menu, tree, place):
    """The mean of the variance in the entry at one place alone, of a tree of numbers."""
    return _unrests(menu, tree, _square_apart, [place])[place]


def forces(menu, tree):
    """The places with a force above 0, each with it."""
    found = _unrests(menu, tree, _square_apart, [place for place, _ in asked_shares(menu, tree)])
    return tuple([(place, found[place]) for place in sorted(found) if found[place][0] > 0])


def swing(menu, tree, place):
    """The share of the pairs of a row and a digit for which the value is another one if this digit is put in."""
    trees, _ = coded((tree,))
    return _unrests(menu, trees[0], _twice_unlike, [place])[place]


def weighed_shares(menu, tree, weights):
    """The spread of a tree, the digits of each row having weights that are not even."""
    rates = []
    for row in weights:
        common = 1
        for _, under in row:
            common = lcm(common, under)
        rates.append((common, tuple([over * common // under for over, under in row])))
    trees, told = coded((tree,))
    found, whole = joint_weights(rates, trees, {})
    return _spread(told, {code[0]: found[code] for code in found}, whole)
