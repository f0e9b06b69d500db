"""Strategies: trees, asks in any order, that tell a function with few asks."""

from allendless.data import data_text
from allendless.errors import TooGreat, WrongKind
from allendless.joint import even_rates, scale_of
from allendless.moduli import needed_places, value_of_digits
from allendless.ratios import ratio
from allendless.trees import ends_of, grown

MOST_WIDTH = 20000


class Cubes:
    """All ways to know some of the needed places of a tree, by numbers, and what is told then.

    At each place stands a digit, or the place's size if it is free; so knowing more gives a lesser number.
    """

    def __init__(self, sizes, tree):
        self.places = needed_places(sizes, tree)
        self.bases = [sizes[k] for _, k in self.places]
        self.steps = []
        self.width = 1
        for base in self.bases:
            self.steps.append(self.width)
            self.width = self.width * (base + 1)
        if self.width > MOST_WIDTH:
            raise TooGreat("places")
        self.tree = tree
        self.told = {}
        self.texts = []
        self.free = []
        for cube in range(self.width):
            self._add(cube)

    def digit_at(self, cube, at):
        """The digit that is known at the place of a number, or the place's size."""
        return cube // self.steps[at] % (self.bases[at] + 1)

    def further(self, cube, at):
        """The cubes in which the place of a number, free so far, is known, too."""
        whole = cube - self.bases[at] * self.steps[at]
        return [whole + digit * self.steps[at] for digit in range(self.bases[at])]

    def _add(self, cube):
        """Note the free places of a cube, and the text of its value if it has just one, otherwise None."""
        free = [at for at in range(len(self.places)) if self.digit_at(cube, at) == self.bases[at]]
        self.free.append(free)
        if free:
            texts = [self.texts[other] for other in self.further(cube, free[0])]
            self.texts.append(texts[0] if texts.count(texts[0]) == len(texts) else None)
            return
        digits = {place: self.digit_at(cube, at) for at, place in enumerate(self.places)}
        value = value_of_digits(self.tree, digits)
        text = data_text(value)
        self.told[text] = value
        self.texts.append(text)


def _costs_at(cubes, costs, cube, at):
    """What the cubes take that are behind an ask of the place of a number."""
    return [costs[other][0] for other in cubes.further(cube, at)]


def _greatest_costs(cubes):
    """For each cube the least depth of its function, and the number of a place that is to be asked first."""
    costs = []
    for cube in range(cubes.width):
        cost = (0, None)
        if cubes.texts[cube] is None:
            # Each of the ways behind this one ask takes what its cube takes.
            cost = min([(1 + max(_costs_at(cubes, costs, cube, at)), at) for at in cubes.free[cube]])
        costs.append(cost)
    return costs


def _mean_costs(cubes):
    """For each cube the least mean of its function times all fillings of its free places; and what is to be asked."""
    costs = []
    fillings = []
    for cube in range(cubes.width):
        many = 1
        for at in cubes.free[cube]:
            many = many * cubes.bases[at]
        fillings.append(many)
        cost = (0, None)
        if cubes.texts[cube] is None:
            # Each of the fillings takes this one ask, and what the cubes behind it take.
            cost = min([(many + sum(_costs_at(cubes, costs, cube, at)), at) for at in cubes.free[cube]])
        costs.append(cost)
    return costs, fillings[-1]


def _strategy_by(cubes, costs):
    """The tree that asks what costs tell."""
    def step(state, known):
        text = cubes.texts[state]
        if text is not None:
            return ("end", cubes.told[text])
        at = costs[state][1]
        return ("ask", cubes.places[at], cubes.further(state, at))
    return grown(cubes.width - 1, step, None)


def least_depth(sizes, tree):
    """The least depth of all strategies for the function of a tree."""
    return _greatest_costs(Cubes(sizes, tree))[-1][0]


def least_mean(sizes, tree):
    """The least mean of all strategies for the function of a tree."""
    costs, many = _mean_costs(Cubes(sizes, tree))
    return ratio(costs[-1][0], many)


def best_strategy(sizes, tree):
    """A strategy with the least depth."""
    cubes = Cubes(sizes, tree)
    return _strategy_by(cubes, _greatest_costs(cubes))


def mean_strategy(sizes, tree):
    """A strategy with the least mean."""
    cubes = Cubes(sizes, tree)
    costs, _ = _mean_costs(cubes)
    return _strategy_by(cubes, costs)


def certificate_strategy(sizes, tree, value):
    """A strategy whose depth is at most the product of the greatest sizes of what is enough for both values."""
    cubes = Cubes(sizes, tree)
    if len(cubes.told) != 2 or data_text(value) not in cubes.told:
        raise WrongKind()
    # Asking all that is enough, turn by turn, keeps this bound; so what has the least depth keeps it, too.
    return _strategy_by(cubes, _greatest_costs(cubes))


def depth_of(tree):
    """The greatest number of asks on a way of a tree."""
    return max([len(known) for known, _ in ends_of(tree)])


def mean_of(sizes, tree):
    """The mean number of asks of a tree over all rows."""
    scale = scale_of(even_rates(sizes), (tree,))
    asks = 0
    todo = [(tree, scale)]
    while todo:
        part, weight = todo.pop()
        if part[0] == "ask":
            asks += weight
            size = len(part[2])
            todo.extend([(branch, weight // size) for branch in part[2]])
    return ratio(asks, scale)
