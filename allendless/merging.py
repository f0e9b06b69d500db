"""Merged machines: each tells its function with the fewest states; and machines that are made of others."""

from allendless.data import data_text
from allendless.leasttrees import least_of
from allendless.machines import leveled, size_at
from allendless.needed import Functions
from allendless.states import least_states
from allendless.trees import MOST_NODES


class Shapes:
    """Unlike functions that are left at a moment, by numbers; one function at two moments may have two numbers.

    A shape is ("told", text of V) or ("go", numbers), an end the value itself.
    """

    def __init__(self):
        self.numbers = {}
        self.states = []

    def told(self, value):
        """The number of the function that has one value."""
        return self._numbered(("told", data_text(value)), ("told", value))

    def gone(self, t, branches):
        """The number of the function that is left ahead of an entry, by those behind each digit."""
        if branches.count(branches[0]) == len(branches) and self.states[branches[0]][0] == "told":
            return branches[0]
        return self._numbered((t, branches), ("go", branches))

    def _numbered(self, key, state):
        if key not in self.numbers:
            self.numbers[key] = len(self.states)
            self.states.append(state)
        return self.numbers[key]

    def machine(self, menu, first):
        """The merged machine of a number at moment 0."""
        def state_of(number, t):
            return self.states[number]
        return leveled(menu, first, state_of)


def _shape_numbers(shapes, machine):
    """For each level the numbers of its states, from the last level back."""
    numbers = []
    behind = []
    levels = machine[1]
    for t in range(len(levels) - 1, -1, -1):
        here = []
        for word, told in levels[t]:
            if word == "told":
                here.append(shapes.told(told))
            else:
                here.append(shapes.gone(t, tuple([behind[number] for number in told])))
        numbers.append(here)
        behind = here
    return numbers[::-1]


def merged(machine):
    """The machine of the function that a machine tells."""
    shapes = Shapes()
    return shapes.machine(machine[0], _shape_numbers(shapes, machine)[0][0])


def tree_of(machine):
    """The least tree of the function that a machine tells."""
    menu, levels = machine
    functions = Functions()
    behind = []
    for t in range(len(levels) - 1, -1, -1):
        here = []
        for word, told in levels[t]:
            if word == "told":
                here.append(functions.number_of(("end", told)))
            else:
                place = (t // len(menu), t % len(menu))
                here.append(functions.ask_for(place, tuple([behind[number] for number in told])))
        behind = here
    return least_of(functions, behind[0], MOST_NODES)


def joined(machine, other):
    """The machine of the pair of the values of two machines for one menu."""
    shapes = Shapes()
    firsts = [_shape_numbers(shapes, held)[0][0] for held in (machine, other)]
    menu = machine[0]

    # Two merged machines are in unlike pairs of states just where unlike functions of pairs are left.
    def state_of(key, t):
        one, two = [shapes.states[number] for number in key]
        if one[0] == "told" and two[0] == "told":
            return ("told", (one[1], two[1]))
        size = size_at(menu, t)
        lefts = one[1] if one[0] == "go" else (key[0],) * size
        rights = two[1] if two[0] == "go" else (key[1],) * size
        return ("go", list(zip(lefts, rights)))
    return leveled(menu, tuple(firsts), state_of)


class Behind:
    """A machine behind a turner by states: pairs of both states, each told by one number."""

    def __init__(self, states, levels):
        self.states = states
        self.levels = levels

    def pairs_behind(self, t, pair):
        """The numbers of the pairs to which the digits lead; None where the machine tells."""
        state, number = divmod(pair, len(self.levels[t]))
        word, told = self.levels[t][number]
        if word == "told":
            return None
        width = len(self.levels[t + 1])
        return [other * width + told[entry] for entry, other in self.states[state]]

    def met_pairs(self):
        """For each moment the pairs that are come to."""
        found = []
        pairs = [0]
        while pairs:
            found.append(pairs)
            further = {}
            for pair in pairs:
                for other in self.pairs_behind(len(found) - 1, pair) or ():
                    further[other] = True
            pairs = list(further)
        return found

    def value_at(self, t, pair):
        """What the machine tells in a pair."""
        return self.levels[t][pair % len(self.levels[t])][1]


def machine_behind(turner, machine):
    """The machine of the value that a machine has on what a state turner tells."""
    m, _, states = least_states(turner)
    pairing = Behind(states, merged(machine)[1])
    found = pairing.met_pairs()
    shapes = Shapes()
    behind = {}
    for t in range(len(found) - 1, -1, -1):
        here = {}
        for pair in found[t]:
            further = pairing.pairs_behind(t, pair)
            if further is None:
                here[pair] = shapes.told(pairing.value_at(t, pair))
            else:
                here[pair] = shapes.gone(t, tuple([behind[other] for other in further]))
        behind = here
    return shapes.machine((m,), behind[0])
